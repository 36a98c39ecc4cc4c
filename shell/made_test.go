package shell_test

import (
	"math/rand"
	"regexp"
	"strings"
	"testing"

	"heron/shell"
)

// grower makes texts by chance.
type grower struct{ *rand.Rand }

// of is one of some.
func (g grower) of(l ...string) string { return l[g.Intn(len(l))] }

// name is one of a few, so that most are given sooner or later.
func (g grower) name() string { return g.of("p", "q", "r", "p", "q", "r", "é", "\xFF", "#", "P") }

// blanks are one or more, mostly one.
func (g grower) blanks() string {
	return g.of(" ", " ", " ", " ", " ", " ", "\t", "  ", " \t ", "\t\t")
}

// number is one, or nearly.
func (g grower) number() string {
	return g.of("-1", "0", "1", "2", "3", "4", "-1", "1", "2", "007", "-0", "123456789", "9", "-", "--1", "1234567890", "x")
}

// pattern is one of at most so deep, some of them wrong.
func (g grower) pattern(deep int) string {
	if deep <= 1 {
		return g.of(``, `a`, `b`, `a`, `b`, `[ab]`, `.`, `^`, `$`, `\b`, `\B`, `\A`, `\z`, `[^a]`, `é`, `\x{FFFD}`, `\n`, `ab`, ` `, `(`, `[b-a]`, `"`)
	}
	switch g.Intn(7) {
	case 0, 1:
		return g.pattern(deep-1) + g.pattern(deep-1)
	case 2:
		return `(?:` + g.pattern(deep-1) + `|` + g.pattern(deep-1) + `)`
	case 3:
		return `(` + g.pattern(deep-1) + `)`
	case 4:
		return `(?P<` + g.of(`x`, `y`, `z1`) + `>` + g.pattern(deep-1) + `)`
	}
	return `(?:` + g.pattern(deep-1) + `)` + g.of(`*`, `+`, `?`, `*?`, `+?`, `??`, `{2}`, `{0,2}`, `{1,3}?`, `{2,}`, `{0}`)
}

// bytes are some, quoted or not, some of them wrong.
func (g grower) bytes() string {
	var l strings.Builder
	for range g.Intn(12) {
		l.WriteString(g.of("a", "b", "a", "b", "ab", "-", `\n`, "é", "\xFF", "\xC3", "\xA9", `\xc3`, `\t`, `\\`, `"`, " ", "\t", `\x00`, "\x7F"))
	}
	if g.Intn(20) == 0 {
		l.WriteString(g.of(`\`, `\q`, `\x`, `\xF`, `\xA9`, `\x4`, "\x01", "\r"))
	}
	return l.String()
}

// template is one, some of them wrong.
func (g grower) template() string {
	var l strings.Builder
	for range g.Intn(5) {
		l.WriteString(g.of("a", "-", "$0", "$1", "${0}", "$$", "${x}", `\n`, "é", "\xFF", " ", `"`, "$0", "<", ">"))
	}
	if g.Intn(20) == 0 {
		l.WriteString(g.of("$", "${", "$9"))
	}
	return l.String()
}

// words are some with blanks between.
func (g grower) words(l ...string) string {
	var line strings.Builder
	for i, word := range l {
		if i > 0 {
			line.WriteString(g.blanks())
		}
		line.WriteString(word)
	}
	return line.String()
}

// line is one of any kind, most of them right.
func (g grower) line() string {
	switch g.Intn(14) {
	case 0, 1:
		return g.words(`pattern`, g.name()) + g.blanks() + g.pattern(1+g.Intn(4))
	case 2, 3:
		return g.words(`text`, g.name()) + g.blanks() + g.bytes()
	case 4:
		return g.words(`engine`, g.name(), g.number())
	case 5:
		return g.words(`groups`, g.name())
	case 6, 7:
		return g.words(g.of(`match`, `find`, `submatch`), g.name(), g.name())
	case 8:
		return g.words(`all`, g.name(), g.name(), g.number())
	case 9:
		return g.words(`replace`, g.name(), g.name()) + g.blanks() + g.template()
	case 10:
		return g.words(`split`, g.name(), g.name(), g.number())
	case 11, 12:
		l := []string{g.of(`which`, `first`)}
		for range 1 + g.Intn(5) {
			l = append(l, g.name())
		}
		return g.words(l...)
	}
	return g.broken()
}

// broken is a line with a byte too many, too few, or another one.
func (g grower) broken() string {
	line := []byte(g.line() + "x")
	at := g.Intn(len(line))
	switch g.Intn(3) {
	case 0:
		line[at] = byte(g.Intn(256))
	case 1:
		line = append(line[:at], line[at+1:]...)
	default:
		line = append(line[:at:at], append([]byte{" \t\n#-\\\"\x00\x7F\xC3x1"[g.Intn(12)]}, line[at:]...)...)
	}
	return string(line)
}

// text are at most so many lines, the first ones of which give names.
func (g grower) text(most int) string {
	var l []string
	for _, name := range []string{"p", "q", "r"} {
		if g.Intn(5) > 0 {
			l = append(l, `pattern `+name+` `+g.pattern(1+g.Intn(3)), `text `+name+` `+g.bytes())
		}
	}
	for range g.Intn(most + 1) {
		l = append(l, g.of("", "", "", "", "", " ", "\t")+g.line()+g.of("", "", "", "", "", " ", "\t"))
	}
	return strings.Join(l, "\n") + g.of("", "\n", "\n\n")
}

// TestMade: P20.1, P20.2: texts made by chance, against the model; asked again, they answer the same.
func TestMade(t *testing.T) {
	g := grower{rand.New(rand.NewSource(20))}
	lines, wrong, none := 0, 0, 0
	for range 3000 {
		text := g.text(20)
		told := wantModel(t, text)
		wantTold(t, text, told)
		lines += strings.Count(told, "\n")
		wrong += strings.Count(told, "error 200\n")
		none += strings.Count(told, "none\n")
	}
	if wrong < lines/10 || wrong > lines/2 || none < lines/100 {
		t.Errorf("of %d lines: %d are none, %d tell none", lines, wrong, none)
	}
}

// scattered is a text with lines that tell nothing put anywhere: ahead of, between and behind its lines.
func (g grower) scattered(text string) string {
	var l []string
	for line := range strings.SplitSeq(text, "\n") {
		for range g.Intn(3) {
			l = append(l, g.of(passedOver()...))
		}
		l = append(l, line)
	}
	return strings.Join(append(l, g.of(passedOver()...)), "\n")
}

// TestTellingNothing: P20.3: lines that tell nothing, put anywhere, change nothing.
func TestTellingNothing(t *testing.T) {
	g := grower{rand.New(rand.NewSource(203))}
	for _, x := range examples() {
		for range 20 {
			wantTold(t, g.scattered(slashed(x[0])), slashed(x[1]))
		}
	}
	for range 1000 {
		text := g.text(15)
		wantTold(t, g.scattered(text), shell.Do(text))
	}
	// Each of them at each place.
	text := given() + asking()
	want := shell.Do(text)
	for _, line := range passedOver() {
		for at := range len(text) {
			if at == 0 || text[at-1] == '\n' {
				wantTold(t, text[:at]+line+"\n"+text[at:], want)
			}
		}
	}
}

// wantBeginnings fails, if what is told of a beginning of a text, up to a byte 10, is no beginning of what is told of it.
func wantBeginnings(t testing.TB, text string) {
	t.Helper()
	told := shell.Do(text)
	before := 0
	for at := range len(text) {
		if text[at] != '\n' {
			continue
		}
		begin := shell.Do(text[:at+1])
		if !strings.HasPrefix(told, begin) || len(begin) < before {
			t.Errorf("%s tells %s, and its first %d bytes %s", shown(text), shown(told), at+1, shown(begin))
		}
		before = len(begin)
	}
}

// TestBeginnings: P20.3: what is told of a text's beginning is a beginning of what is told of it.
func TestBeginnings(t *testing.T) {
	g := grower{rand.New(rand.NewSource(204))}
	for _, x := range examples() {
		wantBeginnings(t, slashed(x[0])+"\n")
	}
	wantBeginnings(t, given()+asking())
	for range 1000 {
		wantBeginnings(t, g.text(12))
	}
}

// solid is a pattern that takes a rune at least, and no loop of which goes round nothing: what it finds, Go's own regular expressions find as well.
func (g grower) solid(deep int) string {
	if deep <= 1 {
		return g.of(`a`, `b`, `-`, `[ab]`, `.`, `[^a]`, `é`, `\w`, `\W`, `ab`, `ba`)
	}
	switch g.Intn(5) {
	case 0, 1:
		return g.solid(deep-1) + g.solid(deep-1)
	case 2:
		return `(?:` + g.solid(deep-1) + `|` + g.solid(deep-1) + `)`
	case 3:
		return `(` + g.solid(deep-1) + `)`
	}
	return `(?:` + g.solid(deep-1) + `)` + g.of(`+`, `+?`, `{2}`, `{1,3}`, `{2,}`)
}

// TestAsOthers: P20.2, T2, T3: where both mean the same, what is told is what Go's own regular expressions find, by each engine.
func TestAsOthers(t *testing.T) {
	g := grower{rand.New(rand.NewSource(205))}
	for range 1500 {
		pattern, text := g.solid(1+g.Intn(5)), strings.Repeat(g.of("ab", "-", "b", "é", "a"), g.Intn(4))+g.of("a", "ba", "-é", "")+strings.Repeat(g.of("b", "ab", "--"), g.Intn(4))
		other := regexp.MustCompile(`(?m:` + pattern + `)`)
		var items, pieces []string
		for _, item := range other.FindAllStringSubmatchIndex(text, -1) {
			items = append(items, joined(item))
		}
		for _, piece := range splitAt(text, other.FindAllStringIndex(text, -1)) {
			pieces = append(pieces, quotedModel(piece))
		}
		fits := "no"
		if len(items) > 0 {
			fits = "yes"
		}
		replaced := quotedModel(other.ReplaceAllString(text, "<${0}>"))
		wantTold(t, linesOf(`pattern p `+pattern, `text t `+text, `engine p `+g.of("0", "1", "2", "4"), `match p t`, `find p t`, `submatch p t`, `all p t -1`, `replace p t <$0>`, `split p t -1`),
			linesOf(`ok`, `ok`, `ok`, fits, orNone(joined(other.FindStringIndex(text))), orNone(joined(other.FindStringSubmatchIndex(text))), orNone(strings.Join(items, "; ")), replaced, itoa(len(pieces))+" "+strings.Join(pieces, " ")))
	}
}

// splitAt are the pieces of a text between matches.
func splitAt(text string, matches [][]int) []string {
	var l []string
	from := 0
	for _, two := range matches {
		l = append(l, text[from:two[0]])
		from = two[1]
	}
	return append(l, text[from:])
}

// FuzzDo holds ever more texts against the model, and P20.3 against them.
func FuzzDo(f *testing.F) {
	for _, x := range examples() {
		f.Add(slashed(x[0]))
	}
	f.Add(given() + asking())
	g := grower{rand.New(rand.NewSource(206))}
	for range 30 {
		f.Add(g.text(10))
	}
	f.Fuzz(func(t *testing.T, text string) {
		if len(text) > 600 {
			return
		}
		told := wantModel(t, text)
		wantBeginnings(t, text)
		wantTold(t, "# x\n"+strings.ReplaceAll(text, "\n", "\n\t\n")+"\n", told)
	})
}
