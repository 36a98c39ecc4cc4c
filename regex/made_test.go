package regex_test

import (
	"math/rand"
	"regexp"
	"slices"
	"strings"
	"testing"

	"heron/api"
	"heron/onepass"
	"heron/printer"
	"heron/regex"
	"heron/syntax"
)

// wantScan fails, if a pattern does not find that by each engine, or what it finds is not as P16.7 and P16.9 say.
func wantScan(t testing.TB, pattern string, b []byte, want [][]int) {
	t.Helper()
	r := made(t, pattern)
	for _, q := range byEach(t, r) {
		wantFirst(t, q, b, headOf(want))
		wantSome(t, q, b, want, -1, 0, 1, len(want)/2, len(want), len(want)+1)
	}
	all, _ := r.All(b, -1)
	wantRising(t, pattern, b, all)
}

// wantRising fails, if items overlap, one that is empty abuts the one ahead, or an offset lies within a rune (P16.7, P16.9).
func wantRising(t testing.TB, pattern string, b []byte, all [][]int) {
	t.Helper()
	_, places := cut(b)
	begin, end := -1, -1
	for _, item := range all {
		if item[0] < end || item[1] < item[0] || item[0] == item[1] && item[0] == end || item[0] == begin && item[1] == end {
			t.Errorf("%q in %s: %s does not rise", pattern, shown(b), shownAll(all))
		}
		begin, end = item[0], item[1]
		for _, offset := range item {
			if _, is := slices.BinarySearch(places, offset); offset != -1 && !is {
				t.Errorf("%q in %s: %v lies within a rune", pattern, shown(b), item)
			}
		}
	}
}

// smallPatterns are all of a few pieces, with a count or without, one behind the other, or one or the other.
func smallPatterns() []string {
	var single, l []string
	for _, piece := range []string{``, `a`, `(a)`, `(|a)`, `(a|ab)`, `\b`, `$`, `\A`, `[^a]`} {
		for _, count := range []string{``, `*`, `+?`, `{2}`} {
			single = append(single, `(?:`+piece+`)`+count)
		}
	}
	for _, first := range single {
		l = append(l, first)
		for _, second := range single {
			l = append(l, first+second, first+`|`+second)
		}
	}
	return l
}

// TestSmallPatterns: P16.3 to P16.5, P16.7 to P16.9, T2, T3, T6: every small pattern, against what its tree means, by each engine.
func TestSmallPatterns(t *testing.T) {
	items := 0
	for n, pattern := range smallPatterns() {
		for k, s := range []string{"", "a", "ab", "aa\xFFa", "\nba", "éab-a"} {
			if (n+k)%3 > 0 {
				continue
			}
			want := mustModel(t, pattern, s)
			wantScan(t, pattern, []byte(s), want)
			items += len(want)
		}
	}
	if items < 8000 {
		t.Errorf("%d items: too few", items)
	}
}

// grower makes patterns and texts by chance.
type grower struct{ *rand.Rand }

// text is one of at most so many pieces, some of them no runes, or pieces of one.
func (g grower) text(most int) []byte {
	var l []byte
	for range g.Intn(most + 1) {
		l = append(l, []string{"a", "b", "a", "b", "a", "b", "ab", "-", "\n", "é", "\xFF", "\xC3", "€", "\xA9"}[g.Intn(14)]...)
	}
	return l
}

// pattern is one of at most so deep.
func (g grower) pattern(deep int) string {
	if deep <= 1 {
		return []string{``, `a`, `b`, `a`, `b`, `[ab]`, `.`, `^`, `$`, `\b`, `\B`, `\A`, `\z`, `[^a]`, `é`, `\x{FFFD}`, `(?i:A)`, `ab`}[g.Intn(18)]
	}
	switch g.Intn(6) {
	case 0, 1:
		return g.pattern(deep-1) + g.pattern(deep-1)
	case 2:
		return `(?:` + g.pattern(deep-1) + `|` + g.pattern(deep-1) + `)`
	case 3:
		return `(` + g.pattern(deep-1) + `)`
	}
	return `(?:` + g.pattern(deep-1) + `)` + g.count()
}

// count is one of a repeat.
func (g grower) count() string {
	return []string{`*`, `+`, `?`, `*?`, `+?`, `??`, `{2}`, `{0,2}`, `{1,3}?`, `{2,}`, `{0}`}[g.Intn(11)]
}

// begun is a pattern that begins with \A, in one of several ways, or perhaps in none.
func (g grower) begun(deep int) string {
	switch tail := g.pattern(deep - 1); g.Intn(6) {
	case 0:
		return `(\A` + tail + `)`
	case 1:
		return `\A` + tail + `|\A` + g.pattern(deep-1)
	case 2:
		return `(?:\A` + tail + `)` + g.count()
	default:
		return `\A` + tail
	}
}

// TestMadePatterns: P16.3 to P16.5, P16.7 to P16.9, T2, T3, T6: patterns and texts made by chance, against what their trees mean.
func TestMadePatterns(t *testing.T) {
	g := grower{rand.New(rand.NewSource(16))}
	told, items, groups := 0, 0, 0
	for range 6000 {
		pattern, b := g.pattern(1+g.Intn(6)), g.text(9)
		want, is := model(t, pattern, b)
		if !is {
			continue
		}
		wantScan(t, pattern, b, want)
		told++
		items += len(want)
		if len(headOf(want)) > 2 {
			groups++
		}
	}
	if told < 5500 || items < 9000 || groups < 1500 {
		t.Errorf("%d were told, %d items, %d with groups: too few", told, items, groups)
	}
}

// TestMadeBegun: P16.5: which of them engine 3 does, and that it tells what the others do.
func TestMadeBegun(t *testing.T) {
	g := grower{rand.New(rand.NewSource(165))}
	done, notOne, notBegun := 0, 0, 0
	for n := range 4000 {
		pattern := g.begun(1 + g.Intn(4))
		if n%5 == 0 {
			pattern = g.pattern(1 + g.Intn(4))
		}
		begins, one := modelBegins(treeOf(t, pattern)), onepass.Is(programOf(t, pattern))
		_, errno := made(t, pattern).With(3)
		switch {
		case begins && one:
			done++
		case begins:
			notOne++
		default:
			notBegun++
		}
		if (errno == api.OK) != (begins && one) || errno != api.OK && errno != api.ErrRegexEngine {
			t.Errorf("%q: %d; it begins: %v, it has one way: %v", pattern, errno, begins, one)
		}
		b := g.text(6)
		if want, is := model(t, pattern, b); is {
			wantScan(t, pattern, b, want)
		}
	}
	if done < 600 || notOne < 600 || notBegun < 600 {
		t.Errorf("%d were done, %d have more ways, %d begin otherwise: too few", done, notOne, notBegun)
	}
}

// TestLongerTexts: P16.3, P16.4, T2, T3, T6: texts of some thousand runes, for which other engines are the best, against the program's find, place by place.
func TestLongerTexts(t *testing.T) {
	g := grower{rand.New(rand.NewSource(166))}
	patterns := []string{`(a|b)*?(ab){3}b`, `(?:(a)|(b)|(-))+\n\n`, `\b(\w+)\b(?:\W\w+){2}`, `(a*)(b*)(a*)$`, `^(?:(a+)|(b+))*-$`, `(.{5})-(.*)`, `ab`, `(a)(b)`, `aba+`, `b*`, `\A(?:[^z])*`, `\A(a|[^a])*?(bb)`, `\Aa|b`, `()`, `zz|é(.)`}
	for range 25 {
		patterns = append(patterns, g.pattern(4))
	}
	for n, pattern := range patterns {
		b := g.text(2500 + 100*n)
		find := byProgram(t, programOf(t, pattern))
		text, places := cut(b)
		r := made(t, pattern)
		all, errno := r.All(b, -1)
		if errno != api.OK {
			t.Fatalf("%q: %d", pattern, errno)
		}
		for _, q := range byEach(t, r) {
			wantFirst(t, q, b, headOf(all))
			wantSome(t, q, b, all, -1, 2)
		}
		wantRising(t, pattern, b, all)
		// The first ones by the model: all of them would take long.
		if want := modelScan(limited(find, len(text)/3), b); !isBeginning(all, want) {
			t.Errorf("%q in %s: %s; want %s", pattern, shown(b), shownAll(all), shownAll(want))
		}
		if caps := find(text, 0); !slices.Equal(offsetsOf(caps, places), headOf(all)) {
			t.Errorf("%q in %s: %v; want %v", pattern, shown(b), headOf(all), caps)
		}
	}
}

// limited finds what a finder does, up to a place alone.
func limited(find finder, last int) finder {
	return func(text []int, at int) []int {
		if at > last {
			return nil
		}
		return find(text, at)
	}
}

// isBeginning tells whether items begin with others.
func isBeginning(all, some [][]int) bool {
	return len(some) <= len(all) && sameAll(all[:len(some)], some)
}

// plainPattern is one in which no loop goes round nothing: what it finds, Go's own regular expressions find as well.
func (g grower) plainPattern(deep int) string {
	if deep <= 1 {
		return []string{`a`, `b`, `a`, `b`, `[ab]`, `.`, `[^a]`, `é`, `\w`, `\W`, `\x{FFFD}`, `ab`}[g.Intn(12)]
	}
	switch g.Intn(7) {
	case 0, 1:
		return g.plainPattern(deep-1) + g.plainPattern(deep-1)
	case 2:
		return `(?:` + g.plainPattern(deep-1) + `|` + g.plainPattern(deep-1) + `)`
	case 3:
		return `(` + g.plainPattern(deep-1) + `)`
	case 4:
		return g.edge() + g.plainPattern(deep-1) + g.edge()
	}
	return `(?:` + g.plainPattern(deep-1) + `)` + []string{`+`, `+?`, `{2}`, `{1,3}`, `{1,2}?`, `{2,}`}[g.Intn(6)]
}

// edge is an assertion, or what can be nothing.
func (g grower) edge() string {
	return []string{``, `^`, `$`, `\b`, `\B`, `a*`, `(b)?`, `(?:ab)??`, `[ab]*?`}[g.Intn(9)]
}

// TestAsOthers: P16.3, P16.4, T2, T3: where both mean the same, it finds what Go's own regular expressions find, in short texts and in longer ones.
func TestAsOthers(t *testing.T) {
	g := grower{rand.New(rand.NewSource(167))}
	items := 0
	for n := range 3000 {
		pattern := g.plainPattern(1 + g.Intn(5))
		other, err := regexp.Compile(`(?m:` + pattern + `)`)
		if err != nil {
			t.Fatalf("%q: %v", pattern, err)
		}
		b := g.text(12)
		if n%10 == 0 {
			b = g.text(3000)
		}
		r := made(t, pattern)
		for _, q := range byEach(t, r) {
			for _, count := range []int{-1, 3} {
				want := other.FindAllSubmatchIndex(b, count)
				if all, errno := q.All(b, count); errno != api.OK || !sameAll(all, want) {
					t.Errorf("%q in %s: %s, %d; want %s", pattern, shown(b), shownAll(all), errno, shownAll(want))
				}
				items += len(want)
			}
			wantFirst(t, q, b, other.FindSubmatchIndex(b))
		}
	}
	if items < 100000 {
		t.Errorf("%d items: too few", items)
	}
}

// TestThereAndBack: T5: the pattern of a pattern's tree finds the same.
func TestThereAndBack(t *testing.T) {
	g := grower{rand.New(rand.NewSource(168))}
	for range 500 {
		pattern, b := g.pattern(1+g.Intn(5)), g.text(20)
		again, errno := printer.Print(treeOf(t, pattern))
		if errno != api.OK {
			t.Fatalf("%q: %d", pattern, errno)
		}
		want, _ := made(t, pattern).All(b, -1)
		wantScan(t, again, b, want)
	}
}

// TestTakenPatterns: P16.1, T1: what Compile refuses is what Parse refuses, by the same fault.
func TestTakenPatterns(t *testing.T) {
	g := grower{rand.New(rand.NewSource(161))}
	refused := 0
	for range 5000 {
		b := []byte(g.pattern(3))
		for range g.Intn(3) {
			if len(b) > 0 {
				b[g.Intn(len(b))] = "a(){}[]*?\\|^-\xC3\xA9"[g.Intn(15)]
			}
		}
		_, want := syntax.Parse(string(b))
		r, err := regex.Compile(string(b))
		f, is := api.Seen(err)
		if wanted, _ := api.Seen(want); !is || f != wanted || (err == nil) != (want == nil) || (r == nil) != (want != nil) {
			t.Errorf("%q: %v, %v; want %v", b, r, err, want)
		}
		if want != nil {
			refused++
		}
	}
	if refused < 1000 || refused > 4500 {
		t.Errorf("%d were refused", refused)
	}
}

// FuzzAll holds ever more patterns and bytes against what their trees mean, and the engines against each other.
func FuzzAll(f *testing.F) {
	for _, x := range examples() {
		f.Add(x.pattern, []byte(x.text))
	}
	for _, x := range oneWays() {
		f.Add(x.pattern, []byte("ab\xFFcd"))
	}
	f.Fuzz(func(t *testing.T, pattern string, b []byte) {
		if len(b) > 300 || len(pattern) > 100 {
			return
		}
		r, err := regex.Compile(pattern)
		if err != nil {
			return
		}
		want, errno := r.All(b, -1)
		if told, is := model(t, pattern, b); is {
			want = told
		}
		if p := programOf(t, pattern); errno == api.OK && len(p.Insts) < 1000 {
			wantScan(t, pattern, b, want)
			// So many runes behind a text that another engine is the best for it.
			long := append(slices.Clone(b), strings.Repeat("\n-", 5000)...)
			all, _ := r.All(long, 5)
			byPike, _ := with(t, r, 1).All(long, 5)
			if !sameAll(all, byPike) {
				t.Errorf("%q in %s: %s; pike finds %s", pattern, shown(long), shownAll(all), shownAll(byPike))
			}
		}
	})
}
