package dfa_test

import (
	"math/rand"
	"testing"

	"heron/api"
	"heron/meaning"
	"heron/prog"
	"heron/syntax"
)

// smallInsts are all instructions of a program of so many, of a few kinds.
func smallInsts(count int) []api.Inst {
	l := []api.Inst{match(1), fail()}
	for x := range count {
		l = append(l, ifA(x), note(0, x), ifHolds(api.EndLine, x), goOn(x))
		for y := range count {
			l = append(l, either(x, y))
		}
	}
	return l
}

// TestSmallPrograms: P14.2 to P14.4, P14.6: every small program.
func TestSmallPrograms(t *testing.T) {
	finds := 0
	all := smallInsts(2)
	for _, first := range all {
		for _, second := range all {
			for _, text := range []string{"", "a", "aba"} {
				finds += wantAll(t, whole(first, second), runesOf(text))
				finds += wantAll(t, api.Program{Insts: []api.Inst{first, second}, Start: 1, Caps: 2}, runesOf(text))
			}
		}
	}
	all = smallInsts(3)
	for n := range len(all) * len(all) * len(all) {
		finds += wantAll(t, whole(all[n%len(all)], all[n/len(all)%len(all)], all[n/len(all)/len(all)]), runesOf("a\na")[n%2:])
	}
	if finds < 20000 {
		t.Errorf("%d were found: too few", finds)
	}
}

// grower makes programs, patterns and texts by chance.
type grower struct{ *rand.Rand }

// text is one of at most so many runes, some of them none.
func (g grower) text(most int) []int {
	var l []int
	for range g.Intn(most + 1) {
		l = append(l, []int{'a', 'b', 'a', 'b', 'a', 'b', '-', 10, -5, 0x3B1}[g.Intn(10)])
	}
	return l
}

// program is one that may be, of at most so many instructions.
func (g grower) program(most int) api.Program {
	count := 1 + g.Intn(most)
	p := api.Program{Start: g.Intn(count), Caps: 2 + 2*g.Intn(3)}
	for range count {
		x, y := g.Intn(count), g.Intn(count)
		i := []api.Inst{
			ifA(x), ifRune(x, rangesOf('a', 'b', 'x', 'z', 0x3B0, 0x3B2)...), ifB(x), ifAny(x), either(x, y), either(x, y), either(x, y), either(x, y),
			note(g.Intn(p.Caps), x), ifHolds(1<<g.Intn(6), x), ifHolds(1<<g.Intn(6), x), match(g.Intn(api.MaxSet)), fail(), goOn(x),
		}[g.Intn(14)]
		p.Insts = append(p.Insts, i)
	}
	return p
}

// pattern is one of at most so deep.
func (g grower) pattern(deep int) string {
	if deep <= 1 {
		return []string{``, `a`, `b`, `a`, `b`, `[ab]`, `.`, `^`, `$`, `\b`, `\B`, `\A`, `\z`, `[^a]`, `\x{3B1}`}[g.Intn(15)]
	}
	switch g.Intn(6) {
	case 0, 1:
		return g.pattern(deep-1) + g.pattern(deep-1)
	case 2:
		return `(?:` + g.pattern(deep-1) + `|` + g.pattern(deep-1) + `)`
	case 3:
		return `(` + g.pattern(deep-1) + `)`
	}
	count := []string{`*`, `+`, `?`, `*?`, `+?`, `??`, `{2}`, `{0,2}`, `{1,3}?`, `{2,}`, `{0}`}[g.Intn(11)]
	return `(?:` + g.pattern(deep-1) + `)` + count
}

// TestMadePrograms: P14.2 to P14.4, P14.6: programs that are no tree's.
func TestMadePrograms(t *testing.T) {
	g := grower{rand.New(rand.NewSource(14))}
	finds := 0
	for n := range 8000 {
		most := 12
		if n%10 == 0 {
			most = 40
		}
		finds += wantAll(t, g.program(most), g.text(6))
	}
	if finds < 40000 {
		t.Errorf("%d were found: too few", finds)
	}
}

// wantParses fails, if the automata of a tree do not tell, at each place of a text, the end of the first parse and, with longest, the greatest end of one (chapter 6); it tells whether the parses are told.
func wantParses(t *testing.T, tree api.Node, p api.Program, text []int) bool {
	t.Helper()
	first, longest := made(t, p, 3, false), made(t, p, 3, true)
	for place := range len(text) + 1 {
		parses, errno := meaning.Parses(tree, text, place)
		if errno != api.OK {
			return false
		}
		head, farthest := never(), never()
		for k, parse := range parses {
			if k == 0 {
				head = at(parse.End)
			}
			farthest = at(max(farthest.end, parse.End))
		}
		q := question{text, place, len(text), true}
		if a := asked(t, first, q); a != head {
			t.Errorf("%s: %s: %v; the first parse ends %v", shownProgram(p), q, a, head)
		}
		if a := asked(t, longest, q); a != farthest {
			t.Errorf("%s: %s: %v; the farthest parse ends %v", shownProgram(p), q, a, farthest)
		}
	}
	return true
}

// TestMadePatterns: P14.2 to P14.4, P14.6, P14.7: programs of patterns, against what the patterns mean, forward and backward, alone and side by side.
func TestMadePatterns(t *testing.T) {
	g := grower{rand.New(rand.NewSource(147))}
	told, finds, begins := 0, 0, 0
	var ahead api.Program
	for n := range 5000 {
		pattern, text := g.pattern(1+g.Intn(6)), g.text(7)
		tree := treeOf(t, pattern)
		p := ofTree(t, tree)
		finds += wantAll(t, p, text)
		begins += wantBeginnings(t, tree, text)
		if wantParses(t, tree, p, text) {
			told++
		}
		if n%5 == 1 {
			wantAll(t, joined(t, ahead, p), text)
		}
		ahead = p
	}
	if told < 4500 || finds < 100000 || begins < 8000 {
		t.Errorf("the parses of %d were told, %d were found, %d began: too few", told, finds, begins)
	}
}

// TestLongerTexts: P14.2 to P14.4, P14.6, P14.7: texts of some length, in which a find comes late.
func TestLongerTexts(t *testing.T) {
	g := grower{rand.New(rand.NewSource(149))}
	for _, pattern := range []string{`(a|b)*?(ab){3}b`, `(?:(a)|(b)|(-))+\n\n`, `\b(\w+)\b(?:\W\w+){2}`, `(a*)(b*)(a*)$`, `^(?:(a+)|(b+))*-$`, `(.{5})-(.*)`, `(?:a|b)*a[ab]{4}-`} {
		for range 3 {
			text := g.text(30)
			wantAll(t, ofPattern(t, pattern), text)
			wantBeginnings(t, treeOf(t, pattern), text)
		}
	}
}

// FuzzEnd holds ever more questions against the models: of patterns, and of programs that are made of bytes.
func FuzzEnd(f *testing.F) {
	f.Add(`(?:(a??)(b??))+c|(|a)+`, "abc", []byte{0, 2, 2, 1, 2, 0, 1, 0, 0, 0, 5, 0, 0, 3})
	f.Add(`(a|ab)(c|bcd)(d*)$`, "abcd\n", []byte{1, 4, 3, 1, 0, 3, 5, 0, 0, 99, 7, 0, 0, 0})
	f.Add(`\b(?:a*)+b{2,3}?^`, "-aab", []byte{3, 2, 4, 1, 0, 4, 6, 0, 0, 0, 1, 0, 0, 0, 2, 3, 0, 0})
	f.Fuzz(func(t *testing.T, pattern, s string, b []byte) {
		text := runesOf(s)
		if len(text) > 10 || len(b) > 200 {
			return
		}
		if p, is := ofBytes(b); is {
			wantAll(t, p, text)
		}
		tree, err := syntax.Parse(pattern)
		if err != nil {
			return
		}
		if p, errno := prog.Compile(tree); errno == api.OK && len(p.Insts) < 200 {
			wantAll(t, p, text)
			wantBeginnings(t, tree, text)
			wantParses(t, tree, p, text)
		}
	})
}

// ofBytes is a program made of bytes; false: it may not be.
func ofBytes(b []byte) (api.Program, bool) {
	if len(b) < 2 {
		return api.Program{}, false
	}
	p := api.Program{Start: int(b[0]), Caps: int(b[1])}
	for b = b[2:]; len(b) >= 4; b = b[4:] {
		i := api.Inst{Op: int(b[0]), X: int(b[1]), Y: int(b[2]), Arg: int(b[3])}
		if i.Op == api.OpRune {
			i.Ranges, i.Arg = rangesOf(i.Arg, i.Arg+i.Y), 0
			i.Y = 0
		}
		p.Insts = append(p.Insts, i)
	}
	return p, prog.Check(p) == api.OK
}
