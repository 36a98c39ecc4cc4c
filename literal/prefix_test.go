package literal_test

import (
	"strings"
	"testing"

	"heron/api"
	"heron/prog"
)

// rowed is a program, and what Prefix is to answer.
type rowed struct {
	p     api.Program
	row   string
	whole bool
}

// wantRows fails, if one of them is answered otherwise, or if P15.5 does not hold in texts that have its row, nearly have it, or have it not.
func wantRows(t *testing.T, l []rowed) {
	t.Helper()
	for _, x := range l {
		wantPrefix(t, x.p, runesOf(x.row), x.whole)
		for _, text := range []string{"", x.row, x.row + "a", "b" + x.row + x.row, "abcabc", "aaaa", strings.TrimSuffix(x.row, "c") + "b", "\nab\n"} {
			wantProgram(t, x.p, runesOf(text))
		}
	}
}

// examplesOfPrefix are the chapter's.
func examplesOfPrefix(t testing.TB) []rowed {
	return []rowed{
		{ofPattern(t, `abc`), "abc", true}, {ofPattern(t, `ab*`), "a", false}, {ofPattern(t, `(a)(b)`), "ab", true},
		{ofPattern(t, `a|b`), "", false}, {ofPattern(t, `[ab]c`), "", false}, {ofPattern(t, `^a`), "", false}, {ofPattern(t, ``), "", true},
		{ofPattern(t, `a\z`), "a", false}, {ofPattern(t, `a{3}b?`), "aaa", false}, {ofPattern(t, `(?i:x)y`), "", false},
		{begun(goOn(0)), "", false},
	}
}

// TestPrefixExamples: P15.1, P15.5: what the chapter's examples say.
func TestPrefixExamples(t *testing.T) {
	wantRows(t, examplesOfPrefix(t))
	wantPrefix(t, api.Program{}, nil, false)
}

// TestPatterns: P15.1, P15.5: patterns whose row ends at each kind of node, within groups and loops, and such as are the whole.
func TestPatterns(t *testing.T) {
	for _, x := range []struct {
		pattern, row string
		whole        bool
	}{
		{`a`, "a", true}, {`((a)((b)c))`, "abc", true}, {`(?:a(?:b)){2}c`, "ababc", true}, {`(?P<n>ab)(?:)c`, "abc", true}, {`(a){0}b`, "b", true}, {`()()`, "", true}, {`a{1,1}`, "a", true}, {`[a][b]`, "ab", true}, {`[a-a]\x{62}`, "ab", true},
		{`a+b`, "a", false}, {`(?:ab)+`, "ab", false}, {`(?:ab)+?c`, "ab", false}, {`a{2,}`, "aa", false}, {`a{2,3}`, "aa", false}, {`a{2,3}?b`, "aa", false}, {`a*`, "", false}, {`a??`, "", false}, {`(ab?)c`, "a", false}, {`(?:a|b)c`, "", false}, {`a(?:b|c)`, "a", false}, {`ab|ac`, "", false}, {`abc|abc`, "", false},
		{`a.`, "a", false}, {`a[bc]d`, "a", false}, {`a[^b]`, "a", false}, {`ab[c-de-f]`, "ab", false}, {`a(?i:b)`, "a", false}, {`(?i:1)a`, "1a", true}, {`a[^\x{0}-\x{10FFFF}]`, "a", false}, {`[^\x{0}-\x{10FFFF}]a`, "", false},
		{`\Aa`, "", false}, {`a\b`, "a", false}, {`a\Bb`, "a", false}, {`ab$`, "ab", false}, {`\z`, "", false}, {`(a)^`, "a", false},
		{`é\x{10FFFF}\n`, "é\U0010FFFF\n", true},
	} {
		wantRows(t, []rowed{{ofPattern(t, x.pattern), x.row, x.whole}})
	}
}

// TestEachOp: P15.1: each operation, as the first one, behind a rune, and behind what only goes on.
func TestEachOp(t *testing.T) {
	for _, x := range []struct {
		i     api.Inst
		row   string
		whole bool
	}{
		{goOn(4), "c", true}, {note(0, 4), "c", true}, {note(1, 4), "c", true}, {note(1, 5), "", true}, {ifB(4), "bc", true}, {ifB(5), "b", true}, {match(0), "", true}, {match(99), "", true},
		{either(4, 4), "", false}, {either(4, 5), "", false}, {either(5, 5), "", false}, {fail(), "", false},
		{ifHolds(api.BeginText, 4), "", false}, {ifHolds(api.EndText, 4), "", false}, {ifHolds(api.BeginLine, 4), "", false}, {ifHolds(api.EndLine, 4), "", false}, {ifHolds(api.WordEdge, 4), "", false}, {ifHolds(api.NoWordEdge, 5), "", false},
	} {
		insts := []api.Inst{ifA(3), goOn(2), note(1, 3), x.i, ifC(5), match(7), fail()}
		wantRows(t, []rowed{{begunAt(0, insts...), "a" + x.row, x.whole}, {begunAt(1, insts...), x.row, x.whole}, {begunAt(2, insts...), x.row, x.whole}, {begunAt(3, insts...), x.row, x.whole}})
	}
}

// TestComesAgain: P15.1, W1: instructions that come again: what takes a rune, and what does not, the first one, and one behind it.
func TestComesAgain(t *testing.T) {
	wantRows(t, []rowed{
		{begun(goOn(0)), "", false},
		{begun(note(0, 0)), "", false},
		{begun(goOn(1), note(1, 2), goOn(0)), "", false},
		{begun(goOn(1), note(1, 2), goOn(1)), "", false},
		{begun(ifA(0)), "a", false},
		{begun(ifA(1), ifB(2), ifC(0)), "abc", false},
		{begun(ifA(1), ifB(2), ifC(1)), "abc", false},
		{begun(ifA(1), ifB(2), ifC(2)), "abc", false},
		{begun(ifA(1), ifB(2), goOn(0)), "ab", false},
		{begun(ifA(1), ifB(2), note(1, 1)), "ab", false},
		{begunAt(2, ifA(1), ifB(2), ifC(0), match(0)), "cab", false},
		{begunAt(1, match(0), goOn(2), ifA(1)), "a", false},
		// The same rune by other instructions does not come again.
		{begun(ifA(1), ifA(2), ifA(3), match(0)), "aaa", true},
		{begun(note(0, 1), note(0, 2), ifA(3), note(0, 4), ifA(5), match(3)), "aa", true},
	})
}

// TestClasses: P15.1: an OpRune with one range of one rune, at the edges of the domain too; with one range of two, with two ranges of one each, and with more. (One with no range may not be.)
func TestClasses(t *testing.T) {
	for _, r := range []int{0, 1, 9, 10, 'a', 127, 128, 255, 256, 0xD7FF, 0xE000, 0xFFFD, 0xFFFF, 0x10000, api.MaxRune - 1, api.MaxRune} {
		wantPrefix(t, begun(ifOne(r, 1), match(0)), []int{r}, true)
		wantPrefix(t, begun(ifA(1), ifOne(r, 2), fail()), []int{'a', r}, false)
		wantProgram(t, begun(ifA(1), ifOne(r, 2), match(0)), []int{r, 'a', r, 'a', r - 1, 'a', r + 1, 'a', r + 1<<32})
	}
	for _, class := range [][]api.Range{
		rangesOf('b', 'c'), rangesOf('b', 'b', 'd', 'd'), rangesOf('b', 'c', 'e', 'e'), rangesOf('b', 'b', 'd', 'e'), rangesOf('b', 'z'), rangesOf(0, 1), rangesOf(0, 0xD7FF), rangesOf(0xD7FF, 0xD7FF, 0xE000, 0xE000), rangesOf(0, 0xD7FF, 0xE000, api.MaxRune), rangesOf(api.MaxRune-1, api.MaxRune), rangesOf('b', 'b', 'd', 'd', 'f', 'f'), manyRanges(api.MaxRanges),
	} {
		wantRows(t, []rowed{{begun(ifRune(1, class...), match(0)), "", false}, {begun(ifA(1), ifRune(2, class...), match(0)), "a", false}, {begun(ifA(1), goOn(2), ifRune(3, class...), ifC(4), match(0)), "a", false}})
	}
	wantPrefix(t, begun(ifRune(1), match(0)), nil, false)
	wantPrefix(t, begun(ifA(1), ifRune(2), match(0)), nil, false)
	wantPrefix(t, begun(ifA(1), match(0), ifRune(1)), nil, false)
}

// TestNoWayToMatch: P15.1, P15.5: OpRunes behind which there is no way to a match are in the row, too; nothing is found.
func TestNoWayToMatch(t *testing.T) {
	for _, x := range []rowed{
		{begun(ifA(1), fail()), "a", false},
		{begun(ifA(1), ifB(2), fail(), match(0)), "ab", false},
		{begun(ifA(1), ifB(1), match(0)), "ab", false},
		{begun(ifA(1), goOn(1), match(0)), "a", false},
		{begun(ifA(1), either(0, 1), match(0)), "a", false},
		{begun(fail()), "", false},
	} {
		wantRows(t, []rowed{x})
		if _, _, finds := wantProgram(t, x.p, runesOf("abababbbaaaa")); finds > 0 {
			t.Errorf("%s: finds something", shownProgram(x.p))
		}
	}
}

// TestMatchAtStart: P15.1, P15.5: the whole row, without runes, that stands everywhere; so too of OpMatches in other places, whatever stands beside.
func TestMatchAtStart(t *testing.T) {
	for _, p := range []api.Program{begun(match(0)), begun(match(99)), begun(match(0), ifA(0)), begunAt(2, ifA(1), ifB(2), match(5)), begun(goOn(1), match(0)), {Insts: []api.Inst{match(0)}, Caps: 2*api.MaxGroups + 2}} {
		wantRows(t, []rowed{{p, "", true}})
		if _, _, finds := wantProgram(t, p, runesOf("ab\n")); finds != 4 {
			t.Errorf("%s: %d finds", shownProgram(p), finds)
		}
	}
}

// TestSideBySide: P15.1: joined programs go on in two ways at once, one alone does not.
func TestSideBySide(t *testing.T) {
	ab := ofPattern(t, `ab`)
	wantRows(t, []rowed{{joined(t, ab), "ab", true}, {joined(t, ab, ab), "", false}, {joined(t, ofPattern(t, ``), ofPattern(t, ``)), "", false}})
}

// chained is a program of so many instructions, each but the last one made to lead to the one behind it; turned about, it begins with the last one.
func chained(count int, turned bool, last api.Inst, link func(next int) api.Inst) api.Program {
	p := api.Program{Caps: 2, Insts: make([]api.Inst, count)}
	place := func(i int) int {
		if turned {
			return count - 1 - i
		}
		return i
	}
	for i := range count - 1 {
		p.Insts[place(i)] = link(place(i + 1))
	}
	p.Insts[place(count-1)] = last
	p.Start = place(0)
	return p
}

// TestGreatestPrograms: P15.1, P15.5: programs of MaxInsts instructions, all of which come, and of one more, which may not be.
func TestGreatestPrograms(t *testing.T) {
	const count = api.MaxInsts
	all := many(count, int('a'))
	for _, turned := range []bool{false, true} {
		for _, x := range []struct {
			link func(int) api.Inst
			row  []int
		}{
			{ifA, all[:count-1]}, {goOn, nil}, {func(next int) api.Inst { return note(1, next) }, nil},
		} {
			for _, last := range []struct {
				i     api.Inst
				row   []int
				whole bool
			}{
				{match(3), nil, true}, {fail(), nil, false}, {either(0, 0), nil, false}, {ifHolds(api.EndText, 0), nil, false}, {ifB(0), runesOf("b"), false}, {ifB(count - 1), runesOf("b"), false}, {goOn(0), nil, false}, {goOn(count / 2), nil, false}, {note(0, count-1), nil, false},
			} {
				want := append(append([]int{}, x.row...), last.row...)
				wantPrefix(t, chained(count, turned, last.i, x.link), want, last.whole)
				wantPrefix(t, chained(count+1, turned, last.i, x.link), nil, false)
			}
		}
	}
	p := chained(count, false, match(0), ifA)
	for _, x := range []struct {
		runes int
		want  bool
	}{{count - 2, false}, {count - 1, true}, {count, true}} {
		text := many(x.runes, int('a'))
		if findsFrom(t, p, text, 0) != x.want || (made(t, all[:count-1]).Next(text, 0) == 0) != x.want {
			t.Errorf("P15.5: %d runes", x.runes)
		}
	}
}

// TestGreatPatterns: P15.1: rows of patterns as long as programs may be.
func TestGreatPatterns(t *testing.T) {
	wantPrefix(t, ofPattern(t, strings.Repeat("ab", 9998)+"c"), append(many2(9998, 'a', 'b'), 'c'), true)
	wantPrefix(t, ofPattern(t, `(?:(?:ab){500}){19}`), many2(9500, 'a', 'b'), true)
	wantPrefix(t, ofPattern(t, `(?:(?:ab){500}){19}c*`), many2(9500, 'a', 'b'), false)
	deep := strings.Repeat("(", api.MaxNest) + "a" + strings.Repeat(")", api.MaxNest)
	wantPrefix(t, ofPattern(t, deep), runesOf("a"), true)
	wantPrefix(t, ofPattern(t, strings.Repeat("(a)", api.MaxGroups)), many(api.MaxGroups, int('a')), true)
	if p := ofPattern(t, strings.Repeat("ab", 9998)+"c"); len(p.Insts) != api.MaxInsts || prog.Check(p) != api.OK {
		t.Errorf("%d instructions", len(p.Insts))
	}
}

// many2 are two runes by turns, so many times.
func many2(count, first, second int) []int {
	var l []int
	for range count {
		l = append(l, first, second)
	}
	return l
}
