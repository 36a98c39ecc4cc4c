package literal_test

import (
	"math/rand"
	"slices"
	"testing"

	"heron/api"
	"heron/literal"
	"heron/pike"
	"heron/prog"
	"heron/syntax"
)

// grower makes rows, programs, patterns and texts by chance.
type grower struct{ *rand.Rand }

// word is a row of at most so many runes, some of them none, rather of few of them than of many.
func (g grower) word(most int) []int {
	kinds := 1 + g.Intn(4)
	var l []int
	for range g.Intn(most + 1) {
		l = append(l, []int{'a', 'b', -5, 'a' + 1<<32}[g.Intn(kinds)])
	}
	return l
}

// again is a row in which its own beginnings come again.
func (g grower) again(most int) []int {
	l := g.word(3)
	for len(l) > 0 && len(l) < most && g.Intn(5) > 0 {
		l = append(l, l[:1+g.Intn(len(l))]...)
		if g.Intn(3) == 0 {
			l = append(l, 'a'+g.Intn(2))
		}
	}
	return l
}

// TestMadeRows: P15.3, P15.6: rows in which their own beginnings come again, in texts made of pieces of them.
func TestMadeRows(t *testing.T) {
	g, stood := grower{rand.New(rand.NewSource(15))}, 0
	for range 20000 {
		lit := g.again(40)
		var text []int
		for range g.Intn(6) {
			from := g.Intn(len(lit) + 1)
			text = slices.Concat(text, lit[:g.Intn(len(lit)+1)], lit[from:], g.word(2))
		}
		stood += wantNexts(t, made(t, lit), lit, text)
	}
	if stood < 20000 {
		t.Errorf("at %d places", stood)
	}
}

// smallInsts are all instructions of a program of so many, of a few kinds.
func smallInsts(count int) []api.Inst {
	l := []api.Inst{match(1), fail()}
	for x := range count {
		l = append(l, ifA(x), ifB(x), ifRune(x, rangesOf('a', 'b')...), note(0, x), ifHolds(api.BeginText, x), goOn(x))
		for y := range count {
			l = append(l, either(x, y))
		}
	}
	return l
}

// counter counts what was looked at: programs whose row is the whole, and other ones, how many runes their rows have, and how much was found.
type counter struct{ whole, other, runes, finds int }

// add counts what wantProgram tells.
func (c *counter) add(runes int, whole bool, finds int) {
	if whole {
		c.whole++
	} else {
		c.other++
	}
	c.runes += runes
	c.finds += finds
}

// wantEnough fails, if there was too little.
func (c *counter) wantEnough(t *testing.T, want counter) {
	t.Helper()
	if c.whole < want.whole || c.other < want.other || c.runes < want.runes || c.finds < want.finds {
		t.Errorf("%+v: too few; want %+v", *c, want)
	}
}

// TestSmallPrograms: P15.1, P15.5: every small program, in a text that has each row of two runes.
func TestSmallPrograms(t *testing.T) {
	var c counter
	text := runesOf("aabba")
	all := smallInsts(2)
	for _, first := range all {
		for _, second := range all {
			c.add(wantProgram(t, begunAt(0, first, second), text))
			c.add(wantProgram(t, begunAt(1, first, second), text))
		}
	}
	all = smallInsts(3)
	for n := range len(all) * len(all) * len(all) {
		c.add(wantProgram(t, begun(all[n%len(all)], all[n/len(all)%len(all)], all[n/len(all)/len(all)]), text))
	}
	c.wantEnough(t, counter{1000, 20000, 6000, 9000})
}

// program is one that may be, of at most so many instructions, of which many lead to the next one.
func (g grower) program(most int) api.Program {
	count := 1 + g.Intn(most)
	p := api.Program{Start: g.Intn(count), Caps: 2 + 2*g.Intn(3)}
	for n := range count {
		x, y := g.Intn(count), g.Intn(count)
		if g.Intn(4) > 0 {
			x = (n + 1) % count
		}
		reads, wide := ifOne('a'+g.Intn(3), x), ifRune(x, rangesOf('a', 'b')...)
		i := []api.Inst{
			reads, reads, reads, reads, reads, reads, note(g.Intn(p.Caps), x), goOn(x), goOn(x), match(g.Intn(api.MaxSet)), wide, ifHolds(1<<g.Intn(6), x), either(x, y), fail(),
		}[g.Intn(14)]
		p.Insts = append(p.Insts, i)
	}
	return p
}

// around is a text in which a row stands, with other runes beside.
func (g grower) around(row []int) []int {
	text := row
	for range g.Intn(3) {
		text = slices.Concat(g.letters(3), row, g.letters(3), row, text)
	}
	return append(slices.Clone(text), g.letters(4)...)
}

// letters are at most so many of them.
func (g grower) letters(most int) []int {
	var l []int
	for range g.Intn(most + 1) {
		l = append(l, []int{'a', 'b', 'c', 10}[g.Intn(4)])
	}
	return l
}

// TestMadePrograms: P15.1, P15.5: programs that are no tree's.
func TestMadePrograms(t *testing.T) {
	g := grower{rand.New(rand.NewSource(151))}
	var c counter
	for range 40000 {
		p := g.program(12)
		row, _ := modelRow(p)
		c.add(wantProgram(t, p, g.around(row)))
	}
	c.wantEnough(t, counter{5000, 20000, 30000, 30000})
}

// pattern is one of at most so deep.
func (g grower) pattern(deep int) string {
	if deep <= 1 {
		return []string{``, `a`, `b`, `c`, `a`, `b`, `c`, `abc`, `[a]`, `[a-c]`, `\n`, `$`, `\B`, `.`}[g.Intn(14)]
	}
	switch g.Intn(9) {
	case 0, 1, 2, 3:
		return g.pattern(deep-1) + g.pattern(deep-1)
	case 4:
		return `(?:` + g.pattern(deep-1) + `|` + g.pattern(deep-1) + `)`
	case 5, 6:
		return `(` + g.pattern(deep-1) + `)`
	}
	count := []string{`*`, `+`, `?`, `+?`, `{2}`, `{3}`, `{1,3}?`, `{2,}`, `{0}`}[g.Intn(9)]
	return `(?:` + g.pattern(deep-1) + `)` + count
}

// wantSearch fails, if THE FIND of a program from a place on is not at, or behind, what a finder of its row tells, and there, if the row is the whole (T6).
func wantSearch(t *testing.T, p api.Program, text []int) {
	t.Helper()
	row, whole := literal.Prefix(p)
	finder := made(t, row)
	for at := range len(text) + 1 {
		f, errno := pike.Run(p, text, at, false)
		if errno != api.OK {
			t.Fatalf("%s: %d", shownProgram(p), errno)
		}
		place := finder.Next(text, at)
		if f.Ok && (place < at || place > f.Caps[0]) || whole && (f.Ok != (place >= 0) || f.Ok && (f.Caps[0] != place || f.Caps[1] != place+len(row))) {
			t.Errorf("%s in %s from %d: %+v; row %s, %v, is told at %d", shownProgram(p), shown(text), at, f, shown(row), whole, place)
		}
	}
}

// TestMadePatterns: P15.1, P15.5: programs of patterns, alone and side by side.
func TestMadePatterns(t *testing.T) {
	g := grower{rand.New(rand.NewSource(155))}
	var alone, together counter
	var last api.Program
	for n := range 20000 {
		p := ofPattern(t, g.pattern(1+g.Intn(5)))
		row, _ := modelRow(p)
		text := g.around(row)
		alone.add(wantProgram(t, p, text))
		wantSearch(t, p, text)
		if n > 0 {
			both := joined(t, last, p)
			together.add(wantProgram(t, both, text))
			wantSearch(t, both, text)
		}
		last = p
	}
	alone.wantEnough(t, counter{5000, 10000, 15000, 50000})
	together.wantEnough(t, counter{0, 19999, 0, 20000})
	if together.whole > 0 || together.runes > 0 {
		t.Errorf("side by side: %+v", together)
	}
}

// FuzzPrefix holds ever more programs, of patterns and of bytes, against the model of the row, and what they find against where it stands.
func FuzzPrefix(f *testing.F) {
	f.Add(`(ab)c`, "xabc", []byte{0, 2, 1, 1, 0, 97, 1, 2, 0, 98, 5, 0, 0, 3})
	f.Add(`a{3}b?`, "aaaab", []byte{1, 4, 3, 1, 0, 3, 1, 0, 0, 97, 7, 0, 0, 0})
	f.Add(`ab\b|c`, "-ab", []byte{2, 2, 1, 1, 1, 97, 1, 2, 0, 98, 7, 1, 0, 0})
	f.Fuzz(func(t *testing.T, pattern, s string, b []byte) {
		text := runesOf(s)
		if len(text) > 30 || len(b) > 400 {
			return
		}
		p := ofBytes(b)
		if prog.Check(p) == api.OK {
			wantProgram(t, p, text)
		} else {
			wantPrefix(t, p, nil, false)
		}
		tree, err := syntax.Parse(pattern)
		if err != nil {
			return
		}
		if p, errno := prog.Compile(tree); errno == api.OK && len(p.Insts) < 500 {
			wantProgram(t, p, text)
			wantSearch(t, p, text)
		}
	})
}

// ofBytes is a program made of bytes, which need not be one that may be.
func ofBytes(b []byte) api.Program {
	if len(b) < 2 {
		return api.Program{}
	}
	p := api.Program{Start: int(b[0]), Caps: int(b[1])}
	for b = b[2:]; len(b) >= 4; b = b[4:] {
		i := api.Inst{Op: int(b[0]), X: int(b[1]), Y: int(b[2]), Arg: int(b[3])}
		if i.Op == api.OpRune {
			i.Ranges, i.Arg = rangesOf(i.Arg, i.Arg+i.Y), 0
			i.Y = 0
		}
		p.Insts = append(p.Insts, i)
	}
	return p
}

// FuzzNext holds ever more rows and texts, each byte a number, against all places at which the row stands.
func FuzzNext(f *testing.F) {
	f.Add([]byte("abaab"), []byte("abaabaabaab"))
	f.Add([]byte("aaab"), []byte("aaaaaab"))
	f.Add([]byte{}, []byte("ab"))
	f.Fuzz(func(t *testing.T, a, b []byte) {
		if len(b) > 300 {
			return
		}
		lit, text := numbersOf(a), numbersOf(b)
		finder := made(t, lit)
		wantNexts(t, finder, lit, text)
		wantNexts(t, finder, lit, slices.Concat(text, lit, lit))
	})
}

// numbersOf are bytes as numbers.
func numbersOf(b []byte) []int {
	var l []int
	for _, c := range b {
		l = append(l, int(c))
	}
	return l
}
