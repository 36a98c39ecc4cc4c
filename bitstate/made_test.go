package bitstate_test

import (
	"math/rand"
	"slices"
	"testing"

	"heron/api"
	"heron/meaning"
	"heron/prog"
	"heron/syntax"
)

// smallInsts are all instructions of a program of so many, of a few kinds.
func smallInsts(count int) []api.Inst {
	l := []api.Inst{match(1), match(2), fail()}
	for x := range count {
		l = append(l, ifA(x), note(0, x), note(1, x), ifHolds(api.BeginText, x), goOn(x))
		for y := range count {
			l = append(l, either(x, y))
		}
	}
	return l
}

// TestSmallPrograms: P12.1, P12.3 to P12.5: every small program.
func TestSmallPrograms(t *testing.T) {
	finds, texts := 0, [][]int{nil, runesOf("a"), runesOf("aba")}
	all := smallInsts(2)
	for _, first := range all {
		for _, second := range all {
			for _, text := range texts {
				finds += wantAll(t, whole(2, first, second), text)
				finds += wantAll(t, api.Program{Insts: []api.Inst{first, second}, Start: 1, Caps: 2}, text)
			}
		}
	}
	all = smallInsts(3)
	for n := range len(all) * len(all) * len(all) {
		p := whole(2, all[n%len(all)], all[n/len(all)%len(all)], all[n/len(all)/len(all)])
		finds += wantAll(t, p, runesOf("aba"))
	}
	if finds < 20000 {
		t.Errorf("%d were found: too few", finds)
	}
}

// grower makes programs, patterns and texts by chance.
type grower struct{ *rand.Rand }

// text is one of at most so many runes, some of them none.
func (g grower) text(most int) []int {
	var l []int
	for range g.Intn(most + 1) {
		l = append(l, []int{'a', 'b', 'a', 'b', 'a', 'b', '-', 10, -5}[g.Intn(9)])
	}
	return l
}

// program is one that may be, of at most so many instructions.
func (g grower) program(most int) api.Program {
	count := 1 + g.Intn(most)
	p := api.Program{Start: g.Intn(count), Caps: 2 + 2*g.Intn(3)}
	for range count {
		x, y := g.Intn(count), g.Intn(count)
		i := []api.Inst{
			ifA(x), ifRune(x, rangesOf('a', 'b', 'x', 'z')...), ifB(x), ifAny(x), either(x, y), either(x, y), either(x, y), either(x, y),
			note(g.Intn(p.Caps), x), note(g.Intn(p.Caps), x), note(g.Intn(p.Caps), x), ifHolds(1<<g.Intn(6), x), match(g.Intn(api.MaxSet)), fail(), goOn(x),
		}[g.Intn(15)]
		p.Insts = append(p.Insts, i)
	}
	return p
}

// pattern is one of at most so deep.
func (g grower) pattern(deep int) string {
	if deep <= 1 {
		return []string{``, `a`, `b`, `a`, `b`, `[ab]`, `.`, `^`, `$`, `\b`, `\B`, `\A`, `\z`, `[^a]`}[g.Intn(14)]
	}
	switch g.Intn(6) {
	case 0, 1:
		return g.pattern(deep-1) + g.pattern(deep-1)
	case 2:
		return `(?:` + g.pattern(deep-1) + `|` + g.pattern(deep-1) + `)`
	case 3:
		return `(` + g.pattern(deep-1) + `)`
	}
	count := []string{`*`, `+`, `?`, `*?`, `+?`, `??`, `{2}`, `{0,2}`, `{1,3}?`, `{2,}`, `{0}`}[g.Intn(11)]
	return `(?:` + g.pattern(deep-1) + `)` + count
}

// TestMadePrograms: P12.1, P12.3 to P12.5: programs that are no tree's.
func TestMadePrograms(t *testing.T) {
	g := grower{rand.New(rand.NewSource(12))}
	finds := 0
	for n := range 30000 {
		most := 12
		if n%10 == 0 {
			most = 40
		}
		finds += wantAll(t, g.program(most), g.text(6))
	}
	if finds < 30000 {
		t.Errorf("%d were found: too few", finds)
	}
}

// wantTree fails, if the program of a tree does not find THE FIND of the tree in a text, from each place, anchored and not (P12.3); it tells how many searches found anything (-1: the parses are not told).
func wantTree(t *testing.T, tree api.Node, p api.Program, text []int) int {
	t.Helper()
	var firsts []api.Found
	for at := range len(text) + 1 {
		parses, errno := meaning.Parses(tree, text, at)
		if errno != api.OK {
			return -1
		}
		first := api.Found{}
		if len(parses) > 0 {
			first = found(0, 0, parses[0].Caps...)
		}
		firsts = append(firsts, first)
	}
	finds := 0
	for at := range firsts {
		want := api.Found{}
		if place := slices.IndexFunc(firsts[at:], func(f api.Found) bool { return f.Ok }); place >= 0 {
			want = firsts[at+place]
			finds++
		}
		if f := ran(t, p, text, at, false); !sameFind(f, want) {
			t.Errorf("P12.3: %s: %+v; want %+v", shown(p, text, at, false), f, want)
		}
		if f := ran(t, p, text, at, true); !sameFind(f, firsts[at]) {
			t.Errorf("P12.3: %s: %+v; want %+v", shown(p, text, at, true), f, firsts[at])
		}
	}
	return finds
}

// TestMadePatterns: P12.1, P12.3 to P12.5: programs of patterns, against what the patterns mean, alone and side by side.
func TestMadePatterns(t *testing.T) {
	g := grower{rand.New(rand.NewSource(123))}
	told, finds := 0, 0
	var l []api.Program
	for range 15000 {
		pattern, text := g.pattern(1+g.Intn(6)), g.text(8)
		tree, err := syntax.Parse(pattern)
		if err != nil {
			t.Fatalf("%q: %v", pattern, err)
		}
		p, errno := prog.Compile(tree)
		if errno != api.OK {
			t.Fatalf("%q: %d", pattern, errno)
		}
		wantAll(t, p, text)
		wantPlaces(t, p, text)
		if some := wantTree(t, tree, p, text); some >= 0 {
			told++
			finds += some
		}
		if l = append(l, p); len(l) == 1+g.Intn(5) {
			wantAll(t, joined(t, l...), text)
			wantPlaces(t, joined(t, l...), text)
			wantFirst(t, l, text)
		}
		if len(l) >= 5 {
			l = nil
		}
	}
	if told < 13000 || finds < 25000 {
		t.Errorf("the parses of %d were told, %d were found: too few", told, finds)
	}
}

// TestLongerTexts: P12.1, P12.3 to P12.5: texts of some length, in which a find comes late.
func TestLongerTexts(t *testing.T) {
	g := grower{rand.New(rand.NewSource(125))}
	for _, pattern := range []string{`(a|b)*?(ab){3}b`, `(?:(a)|(b)|(-))+\n\n`, `\b(\w+)\b(?:\W\w+){2}`, `(a*)(b*)(a*)$`, `^(?:(a+)|(b+))*-$`, `(.{5})-(.*)`} {
		for range 8 {
			wantAll(t, ofPattern(t, pattern), g.text(50))
		}
	}
}

// FuzzRun holds ever more searches against the models: of patterns, and of programs that are made of bytes.
func FuzzRun(f *testing.F) {
	f.Add(`(?:(a??)(b??))+c|(|a)+`, "abc", []byte{0, 2, 2, 1, 2, 0, 1, 0, 0, 0, 5, 0, 0, 3})
	f.Add(`(a|ab)(c|bcd)(d*)$`, "abcd\n", []byte{1, 4, 3, 1, 0, 3, 5, 0, 0, 99, 7, 0, 0, 0})
	f.Add(`\b(?:a*)+b{2,3}?^`, "-aab", []byte{3, 2, 4, 1, 0, 4, 6, 0, 0, 0, 1, 0, 0, 0, 2, 3, 0, 0})
	f.Fuzz(func(t *testing.T, pattern, s string, b []byte) {
		text := runesOf(s)
		if len(text) > 12 || len(b) > 200 {
			return
		}
		if p, is := ofBytes(b); is {
			wantAll(t, p, text)
		}
		tree, err := syntax.Parse(pattern)
		if err != nil {
			return
		}
		if p, errno := prog.Compile(tree); errno == api.OK && len(p.Insts) < 300 {
			wantAll(t, p, text)
			wantPlaces(t, p, text)
			wantTree(t, tree, p, text)
		}
	})
}

// ofBytes is a program made of bytes; false: it may not be.
func ofBytes(b []byte) (api.Program, bool) {
	if len(b) < 2 {
		return api.Program{}, false
	}
	p := api.Program{Start: int(b[0]), Caps: int(b[1])}
	for b = b[2:]; len(b) >= 4; b = b[4:] {
		i := api.Inst{Op: int(b[0]), X: int(b[1]), Y: int(b[2]), Arg: int(b[3])}
		if i.Op == api.OpRune {
			i.Ranges, i.Arg = rangesOf(i.Arg, i.Arg+i.Y), 0
			i.Y = 0
		}
		p.Insts = append(p.Insts, i)
	}
	return p, prog.Check(p) == api.OK
}
