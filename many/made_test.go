package many_test

import (
	"math/rand"
	"regexp"
	"slices"
	"strings"
	"testing"

	"heron/api"
	"heron/many"
	"heron/pike"
	"heron/prog"
	"heron/regex"
)

// grower makes patterns and bytes by chance.
type grower struct{ *rand.Rand }

// text is one of at most so many pieces, some of them no runes, or pieces of one.
func (g grower) text(most int) []byte {
	var l []byte
	for range g.Intn(most + 1) {
		l = append(l, []string{"a", "b", "a", "b", "a", "b", "ab", "-", "\n", "é", "\xFF", "\xC3", "c", "\xA9"}[g.Intn(14)]...)
	}
	return l
}

// pattern is one of at most so deep.
func (g grower) pattern(deep int) string {
	if deep <= 1 {
		return []string{``, `a`, `b`, `a`, `b`, `[ab]`, `.`, `^`, `$`, `\b`, `\B`, `\A`, `\z`, `[^a]`, `é`, `\x{FFFD}`, `c`, `ab`}[g.Intn(18)]
	}
	switch g.Intn(6) {
	case 0, 1:
		return g.pattern(deep-1) + g.pattern(deep-1)
	case 2:
		return `(?:` + g.pattern(deep-1) + `|` + g.pattern(deep-1) + `)`
	case 3:
		return `(` + g.pattern(deep-1) + `)`
	}
	return `(?:` + g.pattern(deep-1) + `)` + []string{`*`, `+`, `?`, `*?`, `+?`, `??`, `{2}`, `{0,2}`, `{1,3}?`, `{2,}`, `{0}`}[g.Intn(11)]
}

// solid is a pattern that takes a rune at least, and no loop of which goes round nothing: what it finds, Go's own regular expressions find as well.
func (g grower) solid(deep int) string {
	if deep <= 1 {
		return []string{`a`, `b`, `c`, `-`, `[ab]`, `.`, `[^a]`, `é`, `\w`, `\W`, `\x{FFFD}`, `ab`, `ba`}[g.Intn(13)]
	}
	switch g.Intn(7) {
	case 0, 1, 2:
		return g.solid(deep-1) + g.solid(deep-1)
	case 3:
		return `(?:` + g.solid(deep-1) + `|` + g.solid(deep-1) + `)`
	case 4:
		return `(` + g.solid(deep-1) + `)`
	case 5:
		return []string{``, `^`, `\b`, `\B`, `a*`, `(b)?`}[g.Intn(6)] + g.solid(deep-1) + []string{``, `$`, `\b`, `\B`, `[ab]*?`, `(?:ab)??`}[g.Intn(6)]
	}
	return `(?:` + g.solid(deep-1) + `)` + []string{`+`, `+?`, `{2}`, `{1,3}`, `{1,2}?`, `{2,}`}[g.Intn(6)]
}

// set are at most so many patterns, most of which fit not everywhere.
func (g grower) set(most int) []string {
	var l []string
	for range 1 + g.Intn(most) {
		switch g.Intn(4) {
		case 0:
			l = append(l, g.pattern(1+g.Intn(5)))
		case 1:
			l = append(l, g.solid(1+g.Intn(4)))
		default:
			l = append(l, g.solid(2+g.Intn(2))+g.solid(2))
		}
	}
	return l
}

// TestMade: P18.2, P18.3, P18.5, P18.6, T8: sets and bytes made by chance, against the models.
func TestMade(t *testing.T) {
	g := grower{rand.New(rand.NewSource(18))}
	nothing, later, groups, few := 0, 0, 0, 0
	for range 4000 {
		l := g.set(7)
		x := wantModels(t, l, g.text(10))
		if x.which < 0 {
			nothing++
		}
		if x.which > 0 {
			later++
		}
		if len(x.caps) > 2 {
			groups++
		}
		if len(x.all) > 0 && len(x.all) < len(l) {
			few++
		}
	}
	if nothing < 300 || later < 700 || groups < 300 || few < 1500 {
		t.Errorf("of none %d, of a later one %d, with groups %d, of some %d: too few", nothing, later, groups, few)
	}
}

// TestSmallSets: P18.2, P18.3, P18.5, P18.6, T8: all pairs of some patterns, in bytes of each kind, against the models.
func TestSmallSets(t *testing.T) {
	patterns := []string{``, `a`, `b`, `ab`, `(a)b`, `a*`, `(a*?)b`, `\b`, `$`, `\Aa`, `b\z`, `[^a]`, `(a)|(b)`, `\x{FFFD}`, `é`, `(|a)+`, `x`}
	for n, one := range patterns {
		for k, other := range patterns {
			for i, s := range []string{"", "a", "b", "ab", "ba", "-ab", "aab", "\xFFb", "éa", "b\nab"} {
				if (n+k+i)%2 == 0 {
					wantModels(t, []string{one, other}, []byte(s))
				}
			}
		}
	}
}

// TestOfOne: P18.6, T8: a set of one pattern tells what the pattern tells, by whatever engine.
func TestOfOne(t *testing.T) {
	g := grower{rand.New(rand.NewSource(186))}
	for range 1500 {
		pattern, b := g.pattern(1+g.Intn(5)), g.text(15)
		got := asked(t, made(t, pattern), b)
		for engine := range 5 {
			r, errno := regexOf(t, pattern).With(engine)
			if engine == 3 && errno == api.ErrRegexEngine {
				continue
			}
			if want := modelOfEach(t, []*regex.Regex{r}, b); !got.same(want) {
				t.Errorf("%q in %s: %v; by %d: %v", pattern, shown(b), got, engine, want)
			}
		}
		wantBoth(t, []string{pattern}, b, got)
	}
}

// wantSideBySide fails, if First is not what pike finds by the program of all patterns side by side (P18.5), or the set does not tell what each pattern does (P18.2, P18.3).
func wantSideBySide(t testing.TB, l []string, b []byte) told {
	t.Helper()
	got := asked(t, made(t, l...), b)
	text, places := cut(b)
	found, errno := pike.Run(joined(t, l), text, 0, false)
	if errno != api.OK {
		t.Fatalf("%s: %d", shownSet(l), errno)
	}
	which, caps := -1, []int(nil)
	if found.Ok {
		which = found.Which
		caps = offsetsOf(found.Caps[:programOf(t, l[which]).Caps], places)
	}
	if which != got.which || !slices.Equal(caps, got.caps) {
		t.Errorf("%s in %s: %v; side by side: %d, %v", shownSet(l), shown(b), got, which, caps)
	}
	if want := modelOfEach(t, regexesOf(t, l), b); !got.same(want) {
		t.Errorf("%s in %s: %v; each alone: %v", shownSet(l), shown(b), got, want)
	}
	wantBoth(t, l, b, got)
	return got
}

// TestLongerTexts: P18.2, P18.3, P18.5, P18.6, T8: greater sets, and bytes of some thousand runes, for which other engines are the best.
func TestLongerTexts(t *testing.T) {
	g := grower{rand.New(rand.NewSource(185))}
	for n := range 120 {
		l := g.set(1 + n*api.MaxSet/120)
		b := g.text(100 + 30*n)
		wantSideBySide(t, l, b)
		// Nothing fits till late.
		wantSideBySide(t, l, append(repeated(2000+n, "z\x00"), b...))
	}
	// Patterns that fit once in a great while.
	rare := []string{`(a|b)*?(ab){6}bb`, `\n\n\n`, `(?:(a)|(b)|(-)){3}\n-`, `c{4}`, `ab[ab]{9}c\b`, `(?:é|\x{FFFD}){5}`, `^(a+)(b+)$`, `-a-b-`}
	for range 60 {
		b := g.text(4000)
		l := slices.Clone(rare)
		g.Shuffle(len(l), func(i, k int) { l[i], l[k] = l[k], l[i] })
		wantSideBySide(t, l[:1+g.Intn(len(l))], b)
	}
}

// TestOrder: P18.2, P18.3: patterns in another order tell the same, by other numbers, and of those that begin at one place the other one.
func TestOrder(t *testing.T) {
	g := grower{rand.New(rand.NewSource(183))}
	for range 800 {
		l, b := g.set(6), g.text(12)
		turned := slices.Clone(l)
		slices.Reverse(turned)
		x, y := asked(t, made(t, l...), b), asked(t, made(t, turned...), b)
		var all []int
		for _, which := range slices.Backward(y.all) {
			all = append(all, len(l)-1-which)
		}
		if !slices.Equal(all, x.all) || len(x.caps) > 0 && x.caps[0] != y.caps[0] || x.which >= 0 && len(l)-1-y.which < x.which {
			t.Errorf("%q in %s: %v; turned about %v", l, shown(b), x, y)
		}
	}
}

// TestAsOthers: P18.2, P18.3, T8: where both mean the same, it tells what Go's own regular expressions tell.
func TestAsOthers(t *testing.T) {
	g := grower{rand.New(rand.NewSource(187))}
	fits := 0
	for n := range 1500 {
		var l []string
		var others []*regexp.Regexp
		for range 1 + g.Intn(6) {
			l = append(l, g.solid(1+g.Intn(5)))
			others = append(others, regexp.MustCompile(`(?m:`+l[len(l)-1]+`)`))
		}
		b := g.text(12)
		if n%10 == 0 {
			b = g.text(2000)
		}
		var all [][]int
		for _, other := range others {
			all = append(all, other.FindSubmatchIndex(b))
		}
		wantTold(t, l, b, leastOf(all))
		if len(leastOf(all).all) > 0 {
			fits++
		}
	}
	if fits < 900 {
		t.Errorf("%d fit: too few", fits)
	}
}

// TestTakenSets: P18.1, T1: what is refused is what regex.Compile refuses, the first one of it.
func TestTakenSets(t *testing.T) {
	g := grower{rand.New(rand.NewSource(181))}
	refused := 0
	for range 2000 {
		l := g.set(5)
		for which := range l {
			b := []byte(l[which])
			if len(b) > 0 && g.Intn(3) == 0 {
				b[g.Intn(len(b))] = "a(){}[]*?\\|^-\xC3\xA9"[g.Intn(15)]
			}
			l[which] = string(b)
		}
		which := slices.IndexFunc(l, func(pattern string) bool { _, err := regex.Compile(pattern); return err != nil })
		if which < 0 {
			made(t, l...)
			continue
		}
		_, err := regex.Compile(l[which])
		f, _ := api.Seen(err)
		wantFault(t, l, which, f.Code, f.At)
		refused++
	}
	if refused < 500 || refused > 1900 {
		t.Errorf("%d were refused", refused)
	}
}

// FuzzFirst holds ever more sets, the patterns of which stand in lines, and bytes against what each pattern tells, and against all of them side by side.
func FuzzFirst(f *testing.F) {
	for _, x := range examples() {
		f.Add(strings.Join(x.l, "\n"), []byte(x.text))
	}
	f.Add("a(\n[b-a]", []byte("a"))
	f.Add("(a|b)*?c\n\\bab\n\\x{FFFD}", []byte("-abab\xFFc"))
	f.Fuzz(func(t *testing.T, lines string, b []byte) {
		l := strings.Split(lines, "\n")
		if len(b) > 300 || len(lines) > 200 {
			return
		}
		m, n, err := many.Compile(l)
		if err != nil {
			wantRefusal(t, l, m, n, err)
			return
		}
		if p := joined(t, l); len(p.Insts) < 2000 {
			wantSideBySide(t, l, b)
			wantSideBySide(t, l, append(slices.Clone(b), strings.Repeat("\n-", 3000)...))
		}
	})
}

// wantRefusal fails, if a set is refused otherwise than P18.1 has it.
func wantRefusal(t testing.TB, l []string, m *many.Many, n int, err error) {
	t.Helper()
	f, is := api.Seen(err)
	want, which := api.Fault{Code: api.ErrArg, At: -1}, -1
	if len(l) <= api.MaxSet {
		which = slices.IndexFunc(l, func(pattern string) bool { _, err := regex.Compile(pattern); return err != nil })
		if which >= 0 {
			_, alone := regex.Compile(l[which])
			want, _ = api.Seen(alone)
		} else {
			_, errno := prog.Join(programsOf(t, l))
			want = api.Fault{Code: errno, At: -1}
		}
	}
	if m != nil || !is || n != which || f != want || f.Code == api.OK {
		t.Errorf("%s: %v, %d, %v; want %d, %v", shownSet(l), m != nil, n, err, which, want)
	}
}
