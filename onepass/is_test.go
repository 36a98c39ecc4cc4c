package onepass_test

import (
	"testing"

	"heron/api"
)

// ask is a program, and whether it has one way.
type ask struct {
	p    api.Program
	want bool
}

// examplesOfIs are the chapter's.
func examplesOfIs(t testing.TB) []ask {
	var l []ask
	for _, pattern := range []string{`a*b`, `(?:a|b)*c`, `(a|b)(c)?`, ``, `a?$`, `[a-m]x|[n-z]y`} {
		l = append(l, ask{ofPattern(t, pattern), true})
	}
	for _, pattern := range []string{`a*a`, `a|ab`, `(?:a*)*`, `(?:|a)+`, `[a-m]x|[m-z]y`} {
		l = append(l, ask{ofPattern(t, pattern), false})
	}
	return append(l, ask{whole(2, fail()), true}, ask{whole(2, goOn(0)), false})
}

// wantAsks fails, if one of them is answered otherwise, by the model too, or does not do in some texts what the chapter says of all.
func wantAsks(t *testing.T, l []ask) {
	t.Helper()
	for _, x := range l {
		wantIs(t, x.p, x.want)
		for _, text := range []string{"", "abc", "aab", "ba\nc"} {
			if is, _ := wantAll(t, x.p, runesOf(text)); is != x.want {
				t.Errorf("%s: the model has %v", shownProgram(x.p), is)
			}
		}
	}
}

// wantPatterns fails, if the program of one of the patterns is answered otherwise.
func wantPatterns(t *testing.T, want bool, patterns ...string) {
	t.Helper()
	var l []ask
	for _, pattern := range patterns {
		l = append(l, ask{ofPattern(t, pattern), want})
	}
	wantAsks(t, l)
}

// TestExamplesOfIs: P13.1: what the chapter's examples say.
func TestExamplesOfIs(t *testing.T) { wantAsks(t, examplesOfIs(t)) }

// TestPatterns: P13.1: programs of patterns.
func TestPatterns(t *testing.T) {
	wantPatterns(t, true,
		`a`, `abc`, `a{5}`, `(a)(b)(c)`, `a+b`, `a*?b`, `a??b`, `(?:ab)*c`, `(?:a(?:b)?c)*d`, `a?b?c?`, `\Aa*$`, `\b(\w+)\b`, `(?:(a)|(b)|(c))+-`, `[^a]|a`, `.*\n`, `^$`, `a|b|c|`, `(?:a+b)+c`,
		`((a))`, `(?:x*yx*y)*z`, `a{2,4}b`, `(a{0})b`, `$a|^b`, `(?:a|b)(?:a|b)(?:a|b)`)
	wantPatterns(t, false,
		`a?a`, `a*a*`, `a+a`, `(?:a|b)*b`, `\w+\d`, `|a|`, `a||b|`, `(?:)+`, `(?:a?)*`, `(?:a?)+`, `(?:^)*`, `(a*)+`, `(?:a|[a-c])`, `ab|ac`, `.*a`, `a{2,4}a`, `x(?:a|a)`, `x*(?:y|y)`, `xyz(?:a?)*`, `(?:a{0})*?`, `(?:ab?)*b`,
		`(?:b?a?)b`, `^|$`, `a(?:^|$)`)
}

// TestComesTwice: P13.1: closures that come to an instruction twice: by both ways of an OpAlt at once, by ways that meet later, to themselves.
func TestComesTwice(t *testing.T) {
	wantAsks(t, []ask{
		{whole(2, either(1, 1), fail()), false},
		{whole(2, either(1, 1), match(0)), false},
		{whole(2, either(1, 1), ifA(1)), false},
		{whole(2, either(1, 2), fail(), goOn(1)), false},
		{whole(2, either(1, 2), goOn(3), goOn(3), fail()), false},
		{whole(2, either(1, 2), goOn(3), goOn(4), fail(), fail()), true},
		{whole(2, either(1, 2), note(0, 3), note(1, 3), ifA(4), match(0)), false},
		{whole(2, either(1, 2), ifHolds(api.BeginText, 3), ifHolds(api.EndText, 3), match(0)), false},
		{whole(2, either(1, 4), either(2, 3), ifA(5), ifB(5), either(3, 5), match(0)), false},
		{whole(2, either(1, 4), either(2, 3), ifA(5), ifB(5), goOn(2), match(0)), false},
		{whole(2, either(1, 4), either(2, 3), ifA(5), ifB(5), ifC(2), match(0)), true},
		// To themselves, at once and by way of others.
		{whole(2, goOn(0)), false}, {whole(2, note(0, 0)), false}, {whole(2, ifHolds(api.WordEdge, 0)), false},
		{whole(2, either(0, 0)), false}, {whole(2, either(0, 1), fail()), false}, {whole(2, either(1, 0), fail()), false},
		{whole(2, goOn(1), goOn(2), goOn(0)), false}, {whole(2, goOn(1), goOn(2), goOn(1)), false},
		{whole(2, goOn(1), either(2, 0), match(0)), false}, {whole(2, either(1, 3), note(0, 2), ifHolds(api.EndText, 0), match(5)), false},
		// An assertion counts as if it held: even if two never hold at one place, or one nowhere.
		{whole(2, ifHolds(api.WordEdge, 1), ifHolds(api.NoWordEdge, 0)), false},
		{whole(2, ifHolds(api.WordEdge, 1), ifHolds(api.NoWordEdge, 2), either(3, 3), fail()), false},
		{whole(2, ifHolds(api.WordEdge, 1), ifHolds(api.NoWordEdge, 2), fail()), true},
		// By a rune one may come back.
		{whole(2, ifA(0)), true}, {whole(2, either(1, 2), ifA(0), ifB(0)), true}, {whole(2, goOn(1), ifA(0)), true}, {whole(2, goOn(1), ifA(1)), true},
	})
}

// TestTwoMatches: P13.1: one OpMatch at most is in a closure, be the Args the same or not; in two closures there may be two.
func TestTwoMatches(t *testing.T) {
	wantAsks(t, []ask{
		{whole(2, match(0)), true},
		{whole(2, either(1, 2), match(0), match(0)), false},
		{whole(2, either(1, 2), match(0), match(1)), false},
		{whole(2, either(1, 2), match(0), fail()), true},
		{whole(2, either(1, 2), ifA(3), either(3, 4), match(0), match(0)), false},
		{whole(2, either(1, 2), ifA(3), match(0), either(2, 4), ifB(3)), true},
		{whole(2, either(1, 2), ifA(3), match(0), either(4, 2), match(1)), false},
		{whole(2, either(1, 2), ifA(3), match(0), match(1)), true},
		{whole(2, either(1, 2), ifHolds(api.BeginText, 3), ifHolds(api.EndText, 4), match(0), match(1)), false},
		{whole(2, ifA(1), either(2, 3), goOn(4), goOn(5), match(0), match(1)), false},
		{joined(t, ofPattern(t, `a`), ofPattern(t, `b`)), true},
		{joined(t, ofPattern(t, `a`), ofPattern(t, `a`)), false},
		{joined(t, ofPattern(t, `a`), ofPattern(t, ``)), true},
		{joined(t, ofPattern(t, `a*`), ofPattern(t, `b`)), true},
		{joined(t, ofPattern(t, `a*`), ofPattern(t, `b*`)), false},
		{joined(t, ofPattern(t, `a(?:b)?`), ofPattern(t, `b(?:a)?`), ofPattern(t, `c`)), true},
	})
}

// TestCommonRunes: P13.1: ranges of two OpRunes of one closure that share one rune, and such as touch and share none.
func TestCommonRunes(t *testing.T) {
	for _, x := range []struct {
		a, b []api.Range
		want bool
	}{
		{rangesOf('a', 'a'), rangesOf('a', 'a'), false},
		{rangesOf('a', 'a'), rangesOf('b', 'b'), true},
		{rangesOf('a', 'm'), rangesOf('n', 'z'), true},
		{rangesOf('a', 'm'), rangesOf('m', 'z'), false},
		{rangesOf('a', 'm'), rangesOf('l', 'z'), false},
		{rangesOf('a', 'z'), rangesOf('m', 'm'), false},
		{rangesOf('a', 'z'), rangesOf('a', 'a'), false},
		{rangesOf('a', 'z'), rangesOf('z', 'z'), false},
		{rangesOf('a', 'z'), rangesOf('b', 'y'), false},
		{rangesOf('b', 'y'), rangesOf('a', 'a', 'z', 'z'), true},
		{rangesOf('b', 'y'), rangesOf('a', 'b', 'z', 'z'), false},
		{rangesOf('b', 'y'), rangesOf('a', 'a', 'y', 'z'), false},
		{rangesOf('a', 'c', 'g', 'i'), rangesOf('d', 'f', 'j', 'l'), true},
		{rangesOf('a', 'c', 'g', 'i'), rangesOf('d', 'f', 'h', 'h', 'j', 'l'), false},
		{rangesOf('a', 'c', 'g', 'i'), rangesOf('d', 'f', 'k', 'l', 'n', 'n'), true},
		{rangesOf(0, 0), rangesOf(1, 1), true},
		{rangesOf(0, 0), rangesOf(0, 1), false},
		{rangesOf(api.MaxRune, api.MaxRune), rangesOf(0, 0xD7FF, 0xE000, api.MaxRune-1), true},
		{rangesOf(api.MaxRune, api.MaxRune), rangesOf(0, 0xD7FF, 0xE000, api.MaxRune), false},
		{rangesOf(0, 0xD7FF), rangesOf(0xE000, api.MaxRune), true},
		{rangesOf(0, 0xD7FF, 0xE000, 0xE000), rangesOf(0xE000, api.MaxRune), false},
		{rangesOf(0, 0xD7FF, 0xE000, 0xE000), rangesOf(0xE001, api.MaxRune), true},
		{rangesOf(0, 0xD7FF, 0xE000, api.MaxRune), rangesOf(0, 0xD7FF, 0xE000, api.MaxRune), false},
		{manyRanges(1000, 0, 2), manyRanges(1000, 1, 2), true},
		{manyRanges(1000, 0, 2), manyRanges(1000, 1998, 2), false},
		{manyRanges(1000, 0, 2), manyRanges(1000, 2000, 2), true},
		{manyRanges(1000, 0, 2), rangesOf(999, 999), true},
		{manyRanges(1000, 0, 2), rangesOf(999, 1000), false},
	} {
		for _, l := range [][2][]api.Range{{x.a, x.b}, {x.b, x.a}} {
			a, b := ifRune(3, l[0]...), ifRune(3, l[1]...)
			wantAsks(t, []ask{
				{whole(2, either(1, 2), a, b, match(0)), x.want},
				// Two more between them; one behind a rune; and not in one closure.
				{whole(2, either(1, 4), a, b, match(0), either(5, 2), ifHolds(api.EndLine, 6), fail()), x.want},
				{whole(2, either(1, 5), ifRune(4, l[0]...), b, match(0), either(2, 1), match(9)), x.want},
				{whole(2, ifRune(2, l[0]...), fail(), b, match(0)), true},
			})
		}
	}
	// Three of which two share a rune, in each order.
	for _, l := range []string{"aab", "aba", "baa"} {
		r := runesOf(l)
		wantAsks(t, []ask{{whole(2, either(1, 2), ifOne(r[0], 5), either(3, 4), ifOne(r[1], 5), ifOne(r[2], 5), fail()), false}})
	}
	wantAsks(t, []ask{{whole(2, either(1, 2), ifOne('a', 5), either(3, 4), ifOne('c', 5), ifOne('b', 5), fail()), true}})
}

// TestReached: P13.1: closures of instructions that are not reached need not be plain; those of all that are reached must be, however late.
func TestReached(t *testing.T) {
	wantAsks(t, []ask{
		{whole(2, match(0), goOn(1)), true},
		{whole(2, fail(), either(1, 1)), true},
		{whole(2, ifA(0), either(0, 0), either(3, 4), match(0), match(1)), true},
		{api.Program{Caps: 2, Start: 1, Insts: []api.Inst{goOn(0), match(0)}}, true},
		{api.Program{Caps: 2, Start: 1, Insts: []api.Inst{match(0), goOn(1)}}, false},
		// In a closure, and behind a rune.
		{whole(2, either(1, 2), match(0), either(3, 4), ifA(5), ifA(5), fail()), false},
		{whole(2, ifA(1), ifB(2), ifC(3), goOn(3)), false},
		{whole(2, ifA(1), ifB(2), ifC(4), goOn(3), fail()), true},
		{whole(2, ifA(1), ifB(2), ifC(3), either(4, 4), fail()), false},
		{whole(2, ifA(1), ifB(2), ifC(3), either(4, 5), match(0), match(0)), false},
		{whole(2, ifA(1), ifB(2), ifC(3), either(4, 5), ifA(0), ifA(0)), false},
		{whole(2, ifA(1), ifB(2), ifC(3), either(4, 5), ifA(0), ifB(0)), true},
		// Behind a rune that is there in no text from which one comes there, but reached all the same.
		{whole(2, ifHolds(api.EndText, 1), ifA(2), goOn(2)), false},
		{whole(2, fail(), ifA(2), goOn(2)), true},
		// By the second OpRune of a closure, and by an OpRune that stands behind an OpMatch.
		{whole(2, either(1, 2), ifA(0), ifB(3), goOn(3)), false},
		{whole(2, either(1, 2), match(0), ifB(3), goOn(3)), false},
		// By a Start that is not the first one.
		{api.Program{Caps: 2, Start: 3, Insts: []api.Inst{goOn(0), ifA(0), fail(), ifB(1)}}, false},
		{api.Program{Caps: 2, Start: 3, Insts: []api.Inst{goOn(0), ifA(2), fail(), ifB(1)}}, true},
	})
}

// TestLeadsBack: P13.1: reached instructions that lead, at once or by ways of their own, into closures that were looked at ahead.
func TestLeadsBack(t *testing.T) {
	// 0 Alt > 1, 2; 1 a > 4; 2 Alt > 3, 8; 3 b > 4; 8 Match: what 4 leads to comes back there.
	back := func(match8 api.Inst, l ...api.Inst) api.Program {
		return whole(2, append([]api.Inst{either(1, 2), ifA(4), either(3, 8), ifB(4), l[0], l[1], l[2], l[3]}, match8)...)
	}
	no := fail()
	wantAsks(t, []ask{
		{back(match(0), goOn(0), no, no, no), true},
		{back(match(0), goOn(2), no, no, no), true},
		{back(match(0), goOn(8), no, no, no), true},
		{back(match(0), goOn(5), note(0, 6), ifHolds(api.EndLine, 0), no), true},
		{back(match(0), goOn(5), note(0, 6), ifHolds(api.EndLine, 4), no), false},
		// With a rune of its own, that is there too, or is not.
		{back(match(0), either(5, 0), ifC(4), no, no), true},
		{back(match(0), either(0, 5), ifC(4), no, no), true},
		{back(match(0), either(5, 0), ifA(4), no, no), false},
		{back(match(0), either(5, 0), ifB(4), no, no), false},
		{back(match(0), either(5, 2), ifA(4), no, no), true},
		{back(match(0), either(5, 2), ifB(4), no, no), false},
		{back(match(0), either(5, 8), ifB(4), no, no), true},
		{back(match(0), either(5, 0), ifRune(4, rangesOf('c', 'd', 'f', 'g')...), no, no), true},
		{back(match(0), either(5, 0), ifRune(4, rangesOf(0, 0x60, 'c', 'd')...), no, no), true},
		{back(match(0), either(5, 0), ifRune(4, rangesOf(0, 0x61, 'd', 'd')...), no, no), false},
		{back(match(0), either(5, 0), ifRune(4, rangesOf(0, 0x60, 'b', 'd')...), no, no), false},
		// With an OpMatch of its own.
		{back(match(0), either(5, 0), match(0), no, no), false},
		{back(match(0), either(5, 0), match(1), no, no), false},
		{back(match(0), either(5, 1), match(1), no, no), true},
		{back(match(0), either(5, 8), match(1), no, no), false},
		{back(fail(), either(5, 0), match(1), no, no), true},
		{back(match(0), either(5, 0), no, no, no), true},
		// Into it by two ways: apart from one another, or not.
		{back(match(0), either(1, 3), no, no, no), true},
		{back(match(0), either(1, 2), no, no, no), true},
		{back(match(0), either(3, 8), no, no, no), true},
		{back(match(0), either(0, 1), no, no, no), false},
		{back(match(0), either(1, 0), no, no, no), false},
		{back(match(0), either(2, 8), no, no, no), false},
		{back(match(0), either(0, 0), no, no, no), false},
		{back(match(0), either(5, 6), goOn(1), note(1, 3), no), true},
		{back(match(0), either(5, 6), goOn(1), note(1, 1), no), false},
		{back(match(0), either(5, 6), goOn(1), either(3, 7), ifC(0)), true},
		{back(match(0), either(5, 6), goOn(1), either(3, 7), ifB(0)), false},
		{back(match(0), either(5, 6), goOn(1), either(8, 7), ifB(0)), true},
		{back(match(0), either(5, 6), goOn(1), either(8, 7), match(3)), false},
		{back(match(0), either(5, 6), goOn(1), either(3, 7), match(3)), true},
		// Two roots that lead to the same, then elsewhere, then to the same again.
		{whole(2, either(1, 2), ifA(5), either(3, 4), ifB(7), ifC(9), either(6, 0), ifOne('d', 5), either(8, 2), ifOne('d', 7), either(10, 0), ifOne('d', 9)), true},
		{whole(2, either(1, 2), ifA(5), either(3, 4), ifB(7), ifC(9), either(6, 0), ifOne('d', 5), either(8, 2), ifOne('a', 7), either(10, 0), ifOne('d', 9)), true},
		{whole(2, either(1, 2), ifA(5), either(3, 4), ifB(7), ifC(9), either(6, 0), ifOne('d', 5), either(8, 2), ifOne('d', 7), either(10, 0), ifOne('a', 9)), false},
		{whole(2, either(1, 2), ifA(5), either(3, 4), ifB(7), ifC(9), either(6, 0), ifOne('d', 5), either(8, 2), ifOne('c', 7), either(10, 0), ifOne('d', 9)), false},
	})
}
