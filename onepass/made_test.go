package onepass_test

import (
	"math/rand"
	"slices"
	"testing"

	"heron/api"
	"heron/meaning"
	"heron/onepass"
	"heron/prog"
	"heron/syntax"
)

// smallInsts are all instructions of a program of so many, of a few kinds.
func smallInsts(count int) []api.Inst {
	l := []api.Inst{match(1), match(2), fail()}
	for x := range count {
		l = append(l, ifA(x), ifB(x), note(0, x), ifHolds(api.BeginText, x), goOn(x))
		for y := range count {
			l = append(l, either(x, y))
		}
	}
	return l
}

// counter counts what was looked at.
type counter struct{ one, other, finds int }

// add counts what wantAll tells.
func (c *counter) add(is bool, finds int) {
	if is {
		c.one++
	} else {
		c.other++
	}
	c.finds += finds
}

// wantEnough fails, if too few programs had one way, or more than one, or too little was found.
func (c *counter) wantEnough(t *testing.T, one, other, finds int) {
	t.Helper()
	if c.one < one || c.other < other || c.finds < finds {
		t.Errorf("%+v: too few", *c)
	}
}

// TestSmallPrograms: P13.1, P13.2, P13.4, P13.5: every small program.
func TestSmallPrograms(t *testing.T) {
	var c counter
	all := smallInsts(2)
	for _, first := range all {
		for _, second := range all {
			for _, text := range [][]int{nil, runesOf("a"), runesOf("aba")} {
				c.add(wantAll(t, whole(2, first, second), text))
				c.add(wantAll(t, api.Program{Insts: []api.Inst{first, second}, Start: 1, Caps: 2}, text))
			}
		}
	}
	all = smallInsts(3)
	for n := range len(all) * len(all) * len(all) {
		p := whole(2, all[n%len(all)], all[n/len(all)%len(all)], all[n/len(all)/len(all)])
		c.add(wantAll(t, p, runesOf("aba")))
	}
	c.wantEnough(t, 7000, 7000, 7000)
}

// TestSmallClosures: P13.1: every program of four instructions that match, take one of two runes, or go on in two ways.
func TestSmallClosures(t *testing.T) {
	const count = 4
	all := []api.Inst{match(1)}
	for x := range count {
		all = append(all, ifA(x), ifB(x))
		for y := range count {
			all = append(all, either(x, y))
		}
	}
	var c counter
	l := len(all)
	for n := range l * l * l * l {
		p := whole(2, all[n%l], all[n/l%l], all[n/l/l%l], all[n/l/l/l])
		is := modelIs(p)
		wantIs(t, p, is)
		c.add(is, 0)
	}
	c.wantEnough(t, 50000, 50000, 0)
}

// grower makes programs, patterns and texts by chance.
type grower struct{ *rand.Rand }

// text is one of at most so many runes, some of them none.
func (g grower) text(most int) []int {
	var l []int
	for range g.Intn(most + 1) {
		l = append(l, []int{'a', 'b', 'c', 'a', 'b', 'c', 'd', 'e', '-', 10, -5}[g.Intn(11)])
	}
	return l
}

// class is one of few runes.
func (g grower) class() []api.Range {
	lo := 'a' + g.Intn(12)
	if g.Intn(5) > 0 {
		return rangesOf(lo, lo)
	}
	hi := lo + g.Intn(3)
	return rangesOf(lo, hi, hi+2+g.Intn(2), hi+3+g.Intn(3))
}

// program is one that may be, of at most so many instructions.
func (g grower) program(most int) api.Program {
	count := 1 + g.Intn(most)
	p := api.Program{Start: g.Intn(count), Caps: 2 + 2*g.Intn(3)}
	for range count {
		x, y := g.Intn(count), g.Intn(count)
		reads := ifRune(x, g.class()...)
		i := []api.Inst{
			reads, reads, reads, reads, reads, either(x, y), either(x, y), either(x, y), note(g.Intn(p.Caps), x), ifHolds(1<<g.Intn(6), x), match(g.Intn(api.MaxSet)), fail(), goOn(x),
		}[g.Intn(13)]
		p.Insts = append(p.Insts, i)
	}
	return p
}

// forest is a program whose closures are rather plain than not: nearly each instruction is led to, without a rune, by one at most, and by as many OpRunes as like.
func (g grower) forest(most int) api.Program {
	count := 4 + g.Intn(most)
	p := api.Program{Caps: 4}
	free := g.Perm(count)
	next := func() int {
		if len(free) == 0 || g.Intn(15) == 0 {
			return g.Intn(count)
		}
		x := free[len(free)-1]
		free = free[:len(free)-1]
		return x
	}
	for range count {
		switch g.Intn(10) {
		case 0, 1, 2:
			p.Insts = append(p.Insts, either(next(), next()))
		case 3:
			p.Insts = append(p.Insts, note(g.Intn(4), next()))
		case 4:
			p.Insts = append(p.Insts, []api.Inst{match(g.Intn(3)), fail(), ifHolds(1<<g.Intn(6), next()), goOn(next())}[g.Intn(4)])
		default:
			lo := g.Intn(60)
			p.Insts = append(p.Insts, ifRune(g.Intn(count), rangesOf('a'+lo, 'a'+lo)...))
		}
	}
	p.Start = g.Intn(count)
	return p
}

// fits is a text that leads a program, as far as it goes, by runes that its closures take.
func (g grower) fits(p api.Program, most int) []int {
	var l []int
	inst := p.Start
	for range g.Intn(most + 1) {
		closure, _ := closureOf(p, inst)
		var readers []int
		for _, k := range closure {
			if p.Insts[k].Op == api.OpRune {
				readers = append(readers, k)
			}
		}
		if len(readers) == 0 {
			break
		}
		reader := p.Insts[readers[g.Intn(len(readers))]]
		l = append(l, reader.Ranges[g.Intn(len(reader.Ranges))].Lo)
		inst = reader.X
	}
	return l
}

// assertsNothing tells whether a program has no OpAssert.
func assertsNothing(p api.Program) bool {
	return !slices.ContainsFunc(p.Insts, func(i api.Inst) bool { return i.Op == api.OpAssert })
}

// TestMadePrograms: P13.1, P13.2, P13.4, P13.5: programs that are no tree's.
func TestMadePrograms(t *testing.T) {
	g := grower{rand.New(rand.NewSource(13))}
	var c counter
	for n := range 60000 {
		p := g.program(12)
		if n%2 == 0 {
			p = g.forest([]int{6, 12, 25, 60}[g.Intn(4)])
		}
		is, finds := wantAll(t, p, g.text(6))
		c.add(is, finds)
		text := g.fits(p, 8)
		_, finds = wantAll(t, p, text)
		c.finds += finds
		if is && assertsNothing(p) {
			wantFewSteps(t, p, text, g.Intn(len(text)+1))
		}
	}
	c.wantEnough(t, 20000, 20000, 20000)
}

// pattern is one of at most so deep.
func (g grower) pattern(deep int) string {
	if deep <= 1 {
		return []string{``, `a`, `b`, `c`, `d`, `e`, `f`, `g`, `h`, `[a-c]`, `[x-z]`, `\n`, `^`, `$`, `\b`, `\B`, `\A`, `\z`, `[^a-g]`, `.`}[g.Intn(20)]
	}
	switch g.Intn(7) {
	case 0, 1, 2:
		return g.pattern(deep-1) + g.pattern(deep-1)
	case 3:
		return `(?:` + g.pattern(deep-1) + `|` + g.pattern(deep-1) + `)`
	case 4:
		return `(` + g.pattern(deep-1) + `)`
	}
	count := []string{`*`, `+`, `?`, `*?`, `+?`, `??`, `{2}`, `{0,2}`, `{1,3}?`, `{2,}`, `{0}`}[g.Intn(11)]
	return `(?:` + g.pattern(deep-1) + `)` + count
}

// wantTree fails, if the program of a tree, having one way, does not find the tree's first parse in a text, at each place.
func wantTree(t *testing.T, tree api.Node, p api.Program, text []int) {
	t.Helper()
	for at := range len(text) + 1 {
		parses, errno := meaning.Parses(tree, text, at)
		if errno != api.OK {
			return
		}
		want := api.Found{}
		if len(parses) > 0 {
			want = found(0, 0, parses[0].Caps...)
		}
		if f := ran(t, p, text, at); !sameFind(f, want) {
			t.Errorf("T6: %s: %+v; want %+v", shown(p, text, at), f, want)
		}
	}
}

// TestMadePatterns: P13.1, P13.2, P13.4, P13.5: programs of patterns, alone and side by side, and what those that have one way find against what the patterns mean.
func TestMadePatterns(t *testing.T) {
	g := grower{rand.New(rand.NewSource(133))}
	var alone, together counter
	var l []api.Program
	for range 20000 {
		tree := treeOf(t, g.pattern(1+g.Intn(6)))
		p, errno := prog.Compile(tree)
		if errno != api.OK {
			t.Fatalf("%d", errno)
		}
		for _, text := range [][]int{g.text(6), g.fits(p, 8)} {
			is, finds := wantAll(t, p, text)
			alone.add(is, finds)
			if is {
				wantTree(t, tree, p, text)
			}
		}
		if l = append(l, p); len(l) >= 2+g.Intn(3) {
			both := joined(t, l...)
			together.add(wantAll(t, both, g.fits(both, 8)))
			l = nil
		}
	}
	alone.wantEnough(t, 15000, 10000, 10000)
	together.wantEnough(t, 300, 3000, 300)
}

// TestLongerTexts: P13.2, P13.4, P13.5: texts of some length.
func TestLongerTexts(t *testing.T) {
	g := grower{rand.New(rand.NewSource(135))}
	for _, pattern := range []string{`(?:(a)|(b)|(c))*-`, `(?:(a+)-|(b+c))*$`, `(?:[a-c]*\n)*-`, `(?:(a)b?|(c)d?)*`, `\A(?:[^\n]*(\n))*`, `(?:(\w+)(\W))*`, `(?:a*?b)*?c`, `.{5}-(.*)`} {
		p := ofPattern(t, pattern)
		if !onepass.Is(p) {
			t.Errorf("%q has more than one way", pattern)
		}
		for range 8 {
			wantAll(t, p, g.text(50))
			wantAll(t, p, g.fits(p, 50))
		}
	}
}

// FuzzRun holds ever more programs, of patterns and of bytes, against the models of Is and Run, and against pike.
func FuzzRun(f *testing.F) {
	f.Add(`(?:(a)|b)*?c`, "abc", []byte{0, 2, 2, 1, 2, 0, 1, 0, 0, 97, 5, 0, 0, 3})
	f.Add(`(a(b(c)?)?)?$`, "abcd\n", []byte{1, 4, 3, 1, 0, 3, 5, 0, 0, 99, 7, 0, 0, 0})
	f.Add(`\b(?:a*b)+[^a-c]`, "-aab", []byte{3, 2, 4, 1, 0, 4, 6, 0, 0, 0, 1, 0, 0, 97, 2, 1, 2, 0})
	f.Fuzz(func(t *testing.T, pattern, s string, b []byte) {
		text := runesOf(s)
		if len(text) > 12 || len(b) > 200 {
			return
		}
		p := ofBytes(b)
		if prog.Check(p) == api.OK {
			wantAll(t, p, text)
		} else {
			wantIs(t, p, false)
			wantRefused(t, "may not be", p, text, 0, api.ErrProg)
		}
		tree, err := syntax.Parse(pattern)
		if err != nil {
			return
		}
		if p, errno := prog.Compile(tree); errno == api.OK && len(p.Insts) < 300 {
			if is, _ := wantAll(t, p, text); is {
				wantTree(t, tree, p, text)
			}
		}
	})
}

// ofBytes is a program made of bytes, which need not be one that may be.
func ofBytes(b []byte) api.Program {
	if len(b) < 2 {
		return api.Program{}
	}
	p := api.Program{Start: int(b[0]), Caps: int(b[1])}
	for b = b[2:]; len(b) >= 4; b = b[4:] {
		i := api.Inst{Op: int(b[0]), X: int(b[1]), Y: int(b[2]), Arg: int(b[3])}
		if i.Op == api.OpRune {
			i.Ranges, i.Arg = rangesOf(i.Arg, i.Arg+i.Y), 0
			i.Y = 0
		}
		p.Insts = append(p.Insts, i)
	}
	return p
}
