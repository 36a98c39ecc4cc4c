package dfa_test

import (
	"fmt"
	"math/rand"
	"testing"

	"heron/api"
	"heron/look"
)

// example is a row of the chapter's: what End answers not anchored, and longest, anchored.
type example struct {
	pattern        string
	q              question
	first, longest answer
}

// examples are the chapter's.
func examples() []example {
	return []example{
		{`a|ab`, find("ab"), at(1), at(2)},
		{`a*?`, find("aaa"), at(0), at(3)},
		{`b`, find("aab"), at(3), never()},
		{`(?:^b|b$)`, find("ab"), at(2), never()},
		{`a+`, find("aaa").upTo(2), at(2), at(2)},
		{`a$`, find("aa").upTo(1), never(), never()},
		{`a\b`, find("a a"), at(1), at(1)},
		{`[^\x{0}-\x{10FFFF}]`, find("a"), never(), never()},
	}
}

// TestExamples: P14.3: what the chapter's examples say.
func TestExamples(t *testing.T) {
	for _, x := range examples() {
		p := ofPattern(t, x.pattern)
		wantEnd(t, p, false, x.q, x.first)
		q := x.q
		q.anchored = true
		wantEnd(t, p, true, q, x.longest)
		wantAll(t, p, x.q.text)
	}
}

// asking is a question of a program, and what it is to be answered, with longest (where it is anchored) and without.
type asking struct {
	p              api.Program
	q              question
	first, longest answer
}

// wantAskings fails, if one of them is answered otherwise, or if something else that can be asked of its text is.
func wantAskings(t *testing.T, l []asking) {
	t.Helper()
	for _, x := range l {
		wantEnd(t, x.p, false, x.q, x.first)
		if x.q.anchored {
			wantEnd(t, x.p, true, x.q, x.longest)
		}
		wantAll(t, x.p, x.q.text)
	}
}

// TestLast: P14.2: last at the place itself, within the text and at its end: no rune is taken there or behind, and a walk may begin there.
func TestLast(t *testing.T) {
	some, ab, nothing := ofPattern(t, `a+`), ofPattern(t, `ab|a`), ofPattern(t, ``)
	late := ofPattern(t, `b|\B`)
	wantAskings(t, []asking{
		{some, anchored("aaa").upTo(0), never(), never()},
		{some, anchored("aaa").upTo(1), at(1), at(1)},
		{some, anchored("aaa").upTo(2), at(2), at(2)},
		{some, anchored("aaa").upTo(3), at(3), at(3)},
		{some, anchored("aaa").from(1).upTo(1), never(), never()},
		{some, anchored("aaa").from(1).upTo(2), at(2), at(2)},
		{some, anchored("aaa").from(3).upTo(3), never(), never()},
		// The better way does not count any more, the other one does.
		{ab, anchored("ab").upTo(2), at(2), at(2)},
		{ab, anchored("ab").upTo(1), at(1), at(1)},
		{ab, anchored("ab").upTo(0), never(), never()},
		{nothing, anchored("ab").upTo(0), at(0), at(0)},
		{nothing, anchored("ab").from(1).upTo(1), at(1), at(1)},
		{nothing, anchored("ab").from(2).upTo(2), at(2), at(2)},
		// What begins later, begins at last at the latest.
		{some, find("bba").upTo(2), never(), never()},
		{some, find("bba").upTo(3), at(3), never()},
		{ofPattern(t, `$`), find("aa\na").upTo(1), never(), never()},
		{ofPattern(t, `$`), find("aa\na").upTo(2), at(2), never()},
		{ofPattern(t, `$`), find("aa\na").upTo(3), at(2), never()},
		{ofPattern(t, `$`), find("aa\na").from(3).upTo(3), never(), never()},
		{ofPattern(t, `$`), find("aa\na").from(3).upTo(4), at(4), never()},
		{late, find("  b ").upTo(2), at(0), never()},
		{late, find("xyb").from(1).upTo(1), at(1), never()},
	})
}

// beside are runes that assertions tell apart, and such as stand right beside them; -2: none.
func beside() []int {
	return []int{none, 10, 9, 11, 'a', 'z', 'A', 'Z', '0', '9', '_', '`', '{', '@', '[', '/', ':', '^', 0, 127, 128, 0xE9, 0x10FFFF, 0x110000, -1, -10, 10 + 1<<32}
}

const none = -2

// around is a text of what stands ahead of a place, if that is a rune, so many runes a, and what stands behind them.
func around(ahead, count, behind int) []int {
	var text []int
	if ahead != none {
		text = append(text, ahead)
	}
	text = append(text, many(count, int('a'))...)
	if behind != none {
		text = append(text, behind)
	}
	return text
}

// TestAssertionsAtLast: P14.2: what holds at last hangs on the rune behind it, which is not taken; asked of one automaton again and again, with other runes beside.
func TestAssertionsAtLast(t *testing.T) {
	for which := api.BeginText; which <= api.NoWordEdge; which *= 2 {
		p := whole(ifHolds(which, 1), match(0))
		for _, states := range someLimits() {
			first, longest := made(t, p, states, false), made(t, p, states, true)
			for _, ahead := range beside() {
				for _, behind := range beside() {
					text := around(ahead, 0, behind)
					place := 0
					if ahead != none {
						place = 1
					}
					want := never()
					if look.At(text, place)&which != 0 {
						want = at(place)
					}
					q := question{text, place, place, true}
					if a := asked(t, longest, q); a != want {
						t.Errorf("%d, longest: %s: %v; want %v", which, q, a, want)
					}
					if a := asked(t, first, q); a != want {
						t.Errorf("%d: %s: %v; want %v", which, q, a, want)
					}
					q.anchored = false
					if a := asked(t, first, q); a != want {
						t.Errorf("%d: %s: %v; want %v", which, q, a, want)
					}
				}
			}
		}
	}
}

// TestAssertionsOnTheWay: P14.2, P14.3: what holds at each place that is walked by, ahead of a rune that is taken and behind it.
func TestAssertionsOnTheWay(t *testing.T) {
	for which := api.BeginText; which <= api.NoWordEdge; which *= 2 {
		ahead := whole(ifHolds(which, 1), ifRune(2, rangesOf(0, 0xD7FF, 0xE000, api.MaxRune)...), match(0))
		behind := whole(ifAny(1), ifHolds(which, 2), match(0))
		every := whole(either(1, 3), ifHolds(which, 2), ifAny(0), match(0))
		for _, r := range beside() {
			for _, s := range beside() {
				text := around(r, 0, s)
				wantAll(t, ahead, text)
				wantAll(t, behind, text)
				wantAll(t, every, text)
			}
			wantAll(t, every, around(r, 1, 10))
			wantAll(t, every, around('a', 1, r))
		}
	}
}

// TestWholeText: P14.2: assertions are asked of the whole text, ahead of the place and behind last.
func TestWholeText(t *testing.T) {
	wantAskings(t, []asking{
		{ofPattern(t, `\Aa`), anchored("aa").from(1), never(), never()},
		{ofPattern(t, `^a`), anchored("aa").from(1), never(), never()},
		{ofPattern(t, `^a`), anchored("\naa").from(1), at(2), at(2)},
		{ofPattern(t, `\ba`), anchored("aa").from(1), never(), never()},
		{ofPattern(t, `\Ba`), anchored("aa").from(1), at(2), at(2)},
		{ofPattern(t, `a\z`), anchored("aa").upTo(1), never(), never()},
		{ofPattern(t, `a$`), anchored("aa").upTo(1), never(), never()},
		{ofPattern(t, `a$`), anchored("a\n").upTo(1), at(1), at(1)},
		{ofPattern(t, `a\b`), anchored("aa").upTo(1), never(), never()},
		{ofPattern(t, `a\b`), anchored("a ").upTo(1), at(1), at(1)},
		{ofPattern(t, `a\B`), anchored("aa").upTo(1), at(1), at(1)},
		{ofPattern(t, `a+\b`), find("-aaa-").upTo(3), never(), never()},
		{ofPattern(t, `a+\b`), find("-aaa-").upTo(4), at(4), never()},
		{ofPattern(t, `\A`), find("a").from(1), never(), never()},
	})
}

// TestMatchAheadOfRune: P14.3: a Match that stands ahead of an OpRune cuts that off; with longest it goes on.
func TestMatchAheadOfRune(t *testing.T) {
	ahead := whole(either(1, 2), match(7), ifA(0))
	between := whole(either(1, 2), ifA(0), either(3, 4), match(5), ifB(0))
	wantAskings(t, []asking{
		{ahead, anchored(""), at(0), at(0)},
		{ahead, anchored("aaa"), at(0), at(3)},
		{ahead, anchored("aaa").from(1), at(1), at(3)},
		{ahead, anchored("aab").upTo(1), at(0), at(1)},
		{ahead, find("baa"), at(0), never()},
		{ofPattern(t, `a*?`), anchored("aaa"), at(0), at(3)},
		{ofPattern(t, `a+?`), anchored("aaa"), at(1), at(3)},
		{ofPattern(t, `a??b??`), anchored("ab"), at(0), at(2)},
		{ofPattern(t, `|a|ab`), anchored("ab"), at(0), at(2)},
		{ofPattern(t, `a|ab|abc`), anchored("abc"), at(1), at(3)},
		// Between two runes: the one ahead goes on, the one behind does not.
		{between, anchored("aab"), at(2), at(3)},
		{between, anchored("ba"), at(0), at(2)},
		{between, anchored("ab"), at(1), at(2)},
	})
}

// TestMatchBehindRune: P14.3: a Match that stands behind an OpRune that fits is found, too, and what stands ahead of it goes on: a later Match of that stands in its place, and if none comes, the earlier one stays.
func TestMatchBehindRune(t *testing.T) {
	behind := whole(either(2, 1), match(7), ifA(0))
	wantAskings(t, []asking{
		{behind, anchored(""), at(0), at(0)},
		{behind, anchored("aaa"), at(3), at(3)},
		{behind, anchored("aab"), at(2), at(2)},
		{behind, anchored("aaa").upTo(1), at(1), at(1)},
		{behind, find("baa"), at(0), never()},
		{ofPattern(t, `ab|a`), anchored("ab"), at(2), at(2)},
		{ofPattern(t, `abc|ab|a`), anchored("abd"), at(2), at(2)},
		{ofPattern(t, `abcd|a`), anchored("abce"), at(1), at(1)},
		{ofPattern(t, `(a(bbbc)?)?`), anchored("abbbd"), at(1), at(1)},
		{ofPattern(t, `a|abcd|ab`), anchored("abce"), at(1), at(2)},
		{ofPattern(t, `(?:a|ab)(?:c|bcd)`), anchored("abcd"), at(4), at(4)},
		{ofPattern(t, `(?:ab|a)(?:c|bcd)`), anchored("abcd"), at(3), at(4)},
		{ofPattern(t, `(?:a|ab)(?:c|bcd)(?:d*)`), anchored("abcd"), at(4), at(4)},
	})
}

// TestAnchored: P14.3: anchored, the place alone counts; else the least one from which a walk comes to a Match, whatever begins later, ends sooner, or goes further.
func TestAnchored(t *testing.T) {
	wantAskings(t, []asking{
		{ofPattern(t, `b`), anchored("ab"), never(), never()},
		{ofPattern(t, `b`), anchored("ab").from(1), at(2), at(2)},
		{ofPattern(t, `b`), find("ab"), at(2), never()},
		{ofPattern(t, `b`), find("bab").from(1), at(3), never()},
		// What begins first counts, if something shorter begins within it, too.
		{ofPattern(t, `aaab|a*c|b`), find("aaab"), at(4), never()},
		{ofPattern(t, `abcd|bc`), find("abcd"), at(4), never()},
		{ofPattern(t, `abcd|bc`), find("abce"), at(3), never()},
		{ofPattern(t, `abcd|bc|c`), find("abce"), at(3), never()},
		// Behind a Match nothing begins any more.
		{ofPattern(t, `a|bbb`), find("abbb"), at(1), never()},
		{ofPattern(t, `a|ab*c|b+`), find("abbb"), at(1), never()},
		{ofPattern(t, `ab*c|a|b+`), find("abbb"), at(1), never()},
		{ofPattern(t, `ab*c|ab|b+`), find("abbb"), at(2), never()},
		{ofPattern(t, `a?`), find("ba"), at(0), never()},
	})
}

// TestLongest: P14.3: the greatest place counts, whichever way leads there.
func TestLongest(t *testing.T) {
	wantAskings(t, []asking{
		{ofPattern(t, `a|ab|abc|abcd`), anchored("abcx"), at(1), at(3)},
		{ofPattern(t, `abcd|ab|a`), anchored("abcx"), at(2), at(2)},
		{ofPattern(t, `(?:a|ab|abc)??(?:b|cd)??d??`), anchored("abcd"), at(0), at(4)},
		{ofPattern(t, `(?:aa|aaa)*?`), anchored("aaaaaaa"), at(0), at(7)},
		{ofPattern(t, `(?:aa|aaaaa)+?`), anchored("aaa"), at(2), at(2)},
		{ofPattern(t, `a*?$`), anchored("aa\naa"), at(2), at(2)},
		{ofPattern(t, `(?:a|\n)*?$`), anchored("aa\naa"), at(2), at(5)},
		{ofPattern(t, `(?:a|\n)*?$`), anchored("aa\naa").upTo(4), at(2), at(2)},
	})
}

// TestEmptyText: P14.2, P14.3: the text without runes, whose one place is the first and the last.
func TestEmptyText(t *testing.T) {
	for _, x := range []struct {
		pattern string
		want    answer
	}{
		{``, at(0)}, {`a`, never()}, {`a*`, at(0)}, {`\A`, at(0)}, {`\z`, at(0)}, {`^$`, at(0)}, {`\b`, never()}, {`\B`, at(0)}, {`a|`, at(0)}, {`[^\x{0}-\x{10FFFF}]`, never()}, {`\A\B\z`, at(0)},
	} {
		p := ofPattern(t, x.pattern)
		wantAskings(t, []asking{{p, anchored(""), x.want, x.want}, {p, find(""), x.want, never()}})
	}
	wantAskings(t, []asking{{whole(fail()), anchored(""), never(), never()}, {whole(goOn(0)), anchored(""), never(), never()}, {whole(match(99)), find(""), at(0), never()}})
}

// TestRings: W1: what only goes on, or notes places, and comes back to itself, ends in vain; so do assertions and choices that do.
func TestRings(t *testing.T) {
	for _, x := range []struct {
		p    api.Program
		want answer
	}{
		{whole(goOn(0)), never()},
		{whole(note(0, 1), goOn(2), note(1, 0)), never()},
		{whole(either(0, 0)), never()},
		{whole(either(0, 1), match(0)), at(0)},
		{whole(either(1, 3), goOn(2), note(1, 1), match(0)), at(0)},
		{whole(either(2, 1), goOn(1), ifA(3), either(1, 4), match(0)), at(1)},
		{whole(either(2, 1), goOn(1), ifA(3), either(4, 1), match(0)), at(1)},
		{whole(ifHolds(api.BeginText, 0)), never()},
		{whole(ifHolds(api.BeginText, 1), either(0, 2), ifA(3), match(0)), at(1)},
		{whole(goOn(1), goOn(2), goOn(3), goOn(1)), never()},
		{api.Program{Insts: []api.Inst{goOn(1), match(0), note(0, 0)}, Start: 2, Caps: 2}, at(0)},
	} {
		wantAskings(t, []asking{{x.p, anchored("aab"), x.want, x.want}, {x.p, find("aab"), x.want, never()}})
	}
}

// TestAnyRunes: P14.3: runes of texts may be any numbers; classes that begin or end at the edges of what has slots, at those of the domain and within them.
func TestAnyRunes(t *testing.T) {
	edges := []int{least, least + 1, -1 << 40, -129, -128, -2, -1, 0, 1, 9, 10, 11, 126, 127, 128, 129, 255, 256, 0x3FF, 0x400, 0x401, 0xD7FF, 0xD800, 0xDFFF, 0xE000, 0xFFFF, 0x10000, 0x10FFFE, 0x10FFFF, 0x110000, 1 << 32, 1<<32 + 'a', most - 1, most}
	for _, class := range [][]api.Range{
		rangesOf(0, 0), rangesOf(0, 127), rangesOf(0, 128), rangesOf(127, 127), rangesOf(127, 128), rangesOf(128, 128), rangesOf(128, 255), rangesOf(129, 0xD7FF), rangesOf(0xE000, 0x10FFFF), rangesOf(0x10FFFF, 0x10FFFF), rangesOf(0, 0xD7FF, 0xE000, 0x10FFFF), rangesOf(0x400, 0x400, 0x402, 0xD7FF, 0xE000, 0xFFFF), rangesOf(10, 10, 126, 129, 0x401, 0x401, 0x10000, 0x10FFFE),
	} {
		p := whole(ifRune(1, class...), match(0))
		twice := whole(either(1, 3), ifRune(2, class...), ifRune(5, rangesOf(100, 0x400, 0x402, 0xD7FF)...), ifRune(4, rangesOf(0, 127, 0xE000, 0x10FFFF)...), ifAny(5), match(0))
		for _, states := range someLimits() {
			d, e := made(t, p, states, true), made(t, twice, states, false)
			for _, r := range append(edges, edges...) {
				q := question{[]int{r}, 0, 1, true}
				if a, want := asked(t, d, q), model(p, true, q); a != want {
					t.Errorf("%v: %s: %v; want %v", class, q, a, want)
				}
				for _, s := range edges {
					q := question{[]int{r, s}, 0, 2, false}
					if a, want := asked(t, e, q), model(twice, false, q); a != want {
						t.Errorf("%v: %s: %v; want %v", class, q, a, want)
					}
				}
			}
		}
	}
}

// TestManyStretches: P14.3, P14.4: a class of many ranges that have no slots, asked for each rune in it and between, up, down and by chance.
func TestManyStretches(t *testing.T) {
	class := manyRanges(500, 1000, 3)
	p := whole(either(1, 2), ifRune(3, class...), ifRune(4, rangesOf(1500, 1600, 1700, 3000)...), ifAny(4), match(0))
	g := rand.New(rand.NewSource(14))
	for _, states := range someLimits() {
		for _, longest := range []bool{false, true} {
			d := made(t, p, states, longest)
			for k := range 9000 {
				r := 900 + []int{k, 2900 - k, g.Intn(2000)}[k/3000]
				q := question{[]int{r, 500 + g.Intn(4000), r}, 0, 1 + g.Intn(3), true}
				if a, want := asked(t, d, q), model(p, longest, q); a != want {
					t.Fatalf("%d states, longest %v: %s: %v; want %v", states, longest, q, a, want)
				}
			}
		}
	}
}

// TestOrderOfQuestions: P14.4: the same questions, asked in other orders, of automata of few states and of many, are answered the same.
func TestOrderOfQuestions(t *testing.T) {
	g := rand.New(rand.NewSource(144))
	texts := []string{"", "a", "ab", "abab", "-ab\nab", "aabbaabb", "bbbbbbba", "ab ab ab", "éaéb"}
	for _, pattern := range []string{`(?:a|b)*?ab$`, `(?:ab|ba|aab)+`, `\b[ab]+\b`, `^(?:a|b)+\B`, `a(?:a|b){2}|b`, `[^a]b|\n|(?:é|a)*`, `\Aab|b\z|$`} {
		p := ofPattern(t, pattern)
		for _, longest := range []bool{false, true} {
			var l []question
			for _, text := range texts {
				l = append(l, questions(runesOf(text), longest)...)
			}
			want := map[string]answer{}
			for _, q := range l {
				want[q.String()] = model(p, longest, q)
			}
			for _, states := range []int{2, 3, 4, 5, 6, 8, 11, 20, 100, api.MaxStates} {
				d := made(t, p, states, longest)
				for range 3 {
					g.Shuffle(len(l), func(i, j int) { l[i], l[j] = l[j], l[i] })
					for _, q := range l {
						if a := asked(t, d, q); a != want[q.String()] {
							t.Errorf("%q, longest %v, %d states: %s: %v; want %v", pattern, longest, states, q, a, want[q.String()])
						}
					}
				}
			}
		}
	}
}

// TestRefusedBetween: P14.4, W3: what is refused changes nothing of what is answered behind it.
func TestRefusedBetween(t *testing.T) {
	p := ofPattern(t, `a+\b|b`)
	for _, states := range someLimits() {
		d := made(t, p, states, false)
		for range 3 {
			for _, q := range questions(runesOf("-aab a"), false) {
				wantRefused(t, "no place", d, q.from(-1), api.ErrArg)
				wantRefused(t, "beyond", d, q.upTo(7), api.ErrArg)
				if a, want := asked(t, d, q), model(p, false, q); a != want {
					t.Errorf("%d states: %s: %v; want %v", states, q, a, want)
				}
			}
		}
	}
}

// TestSeveralAutomata: P14.3, W2: automata of one program, with longest and without, side by side.
func TestSeveralAutomata(t *testing.T) {
	p := ofPattern(t, `a|ab|abc`)
	first, longest, other := made(t, p, 2, false), made(t, p, 2, true), made(t, ofPattern(t, `abc|ab`), 2, false)
	for k := range 5 {
		q := anchored("abc").upTo(k % 4)
		got := fmt.Sprint(asked(t, first, q), asked(t, longest, q), asked(t, other, q))
		want := fmt.Sprint(model(p, false, q), model(p, true, q), model(ofPattern(t, `abc|ab`), false, q))
		if got != want {
			t.Errorf("%s: %s; want %s", q, got, want)
		}
	}
}
