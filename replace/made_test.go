package replace_test

import (
	"bytes"
	"math/rand"
	"regexp"
	"strconv"
	"strings"
	"testing"
	"time"

	"heron/api"
	"heron/regex"
	"heron/replace"
)

// grower makes patterns, bytes and templates by chance.
type grower struct{ *rand.Rand }

// text is one of at most so many pieces, some of them no runes, or pieces of one.
func (g grower) text(most int) []byte {
	var l []byte
	for range g.Intn(most + 1) {
		l = append(l, []string{"a", "b", "a", "b", "a", "b", "ab", "-", "\n", "é", "\xFF", "\xC3", "$", "\xA9"}[g.Intn(14)]...)
	}
	return l
}

// pattern is one of at most so deep; names counts the groups that have one.
func (g grower) pattern(deep int, names *int) string {
	if deep <= 1 {
		return []string{``, `a`, `b`, `a`, `b`, `[ab]`, `.`, `^`, `$`, `\b`, `\A`, `\z`, `[^a]`, `é`, `\x{FFFD}`, `ab`}[g.Intn(16)]
	}
	switch g.Intn(7) {
	case 0, 1:
		return g.pattern(deep-1, names) + g.pattern(deep-1, names)
	case 2:
		return `(?:` + g.pattern(deep-1, names) + `|` + g.pattern(deep-1, names) + `)`
	case 3:
		return `(` + g.pattern(deep-1, names) + `)`
	case 4:
		*names++
		return `(?P<n` + strconv.Itoa(*names) + `>` + g.pattern(deep-1, names) + `)`
	}
	return `(?:` + g.pattern(deep-1, names) + `)` + []string{`*`, `+`, `?`, `*?`, `+?`, `??`, `{2}`, `{0,2}`, `{2,}`}[g.Intn(9)]
}

// template is one of at most so many pieces, most of which may be for a Regex.
func (g grower) template(most int, r *regex.Regex) string {
	var s strings.Builder
	for range g.Intn(most + 1) {
		s.WriteString(g.piece(r))
	}
	return s.String()
}

// piece of a template.
func (g grower) piece(r *regex.Regex) string {
	k := strconv.Itoa(g.Intn(r.Groups() + 1))
	switch g.Intn(14) {
	case 0, 1, 2:
		return []string{"x", "12", "{", "}", "\xFF", "é", "_", "\n"}[g.Intn(8)]
	case 3:
		return "$$"
	case 4, 5, 6:
		return "$" + k
	case 7, 8, 9:
		return "${" + strings.Repeat("0", g.Intn(3)) + k + "}"
	case 10, 11:
		if r.Groups() > 0 {
			if name := r.Names()[g.Intn(r.Groups())]; name != "" {
				return "${" + name + "}"
			}
		}
		return "$0"
	case 12:
		if g.Intn(5) == 0 {
			return []string{"$", "${", "${}", "$x", "${nn}", "$9", "${n}", "${1n}", "$00", "$-"}[g.Intn(10)]
		}
	}
	return "-"
}

// TestMade: P17.1 to P17.4: patterns, bytes and templates made by chance, against the models, by each engine.
func TestMade(t *testing.T) {
	g := grower{rand.New(rand.NewSource(17))}
	refused, put := 0, 0
	for range 6000 {
		names := 0
		r := made(t, g.pattern(1+g.Intn(5), &names))
		b, template := g.text(12), g.template(6, r)
		for _, q := range byEach(t, r) {
			wantModel(t, q, b, template)
			wantModelSplit(t, q, b)
		}
		if _, may := modelRead(r, template); !may {
			refused++
		} else if !bytes.Equal(allOf(t, r, b, template), b) {
			put++
		}
	}
	if refused < 300 || put < 2000 {
		t.Errorf("%d were refused, %d put something there: too few", refused, put)
	}
}

// TestMadeTemplates: P17.1: bytes made by chance as templates.
func TestMadeTemplates(t *testing.T) {
	g := grower{rand.New(rand.NewSource(171))}
	r := made(t, `(a)(?P<x>b)?(?P<x1>c)?`)
	count := 0
	for range 60000 {
		var s strings.Builder
		for range g.Intn(8) {
			s.WriteByte("$$$${{}}0123x1y-"[g.Intn(16)])
		}
		if _, may := modelRead(r, s.String()); !may {
			if x, errno := replace.Read(r, s.String()); x != nil || errno != api.ErrReplace {
				t.Errorf("%q: %v, %d", s.String(), x != nil, errno)
			}
			continue
		}
		wantModel(t, r, []byte("-abc-ac"), s.String())
		count++
	}
	if count < 10000 {
		t.Errorf("%d may be: too few", count)
	}
}

// TestMadeCaptures: P17.2, P17.8: captures made by chance, most of which may be, against the models; and other bytes outside of them.
func TestMadeCaptures(t *testing.T) {
	g := grower{rand.New(rand.NewSource(172))}
	refused := 0
	for range 20000 {
		groups := g.Intn(4)
		r := made(t, strings.Repeat(`(a)`, groups))
		b, template := g.text(9), g.template(6, r)
		parts, may := modelRead(r, template)
		if !may {
			continue
		}
		caps := g.captures(groups, len(b))
		x := read(t, r, template)
		if !modelMayBe(groups, len(b), caps) {
			refused++
			wantExpanded(t, x, b, caps, "", api.ErrArg)
			continue
		}
		want := string(modelExpand(parts, b, caps))
		wantExpanded(t, x, b, caps, want, api.OK)
		wantExpanded(t, x, changedOutside(b, caps), caps, want, api.OK)
	}
	if refused < 1000 {
		t.Errorf("%d were refused: too few", refused)
	}
}

// captures are those of so many groups in so many bytes; now and then they may not be.
func (g grower) captures(groups, size int) []int {
	var caps []int
	for range groups + 1 {
		begin, end := g.Intn(size+1), g.Intn(size+1)
		if g.Intn(20) > 0 {
			begin, end = min(begin, end), max(begin, end)
		}
		if g.Intn(4) == 0 {
			begin, end = -1, -1
		}
		caps = append(caps, begin, end)
	}
	if g.Intn(10) == 0 {
		caps[g.Intn(len(caps))] = g.Intn(size+5) - 2
	}
	return caps
}

// changedOutside are bytes of which those in no capture are others, and some stand behind.
func changedOutside(b []byte, caps []int) []byte {
	other := bytes.Repeat([]byte("?"), len(b)+2)
	for i := 0; i < len(caps); i += 2 {
		if caps[i] >= 0 {
			copy(other[caps[i]:caps[i+1]], b[caps[i]:])
		}
	}
	return other
}

// TestAsOthers: P17.3: where both mean the same, it puts there what Go's own regular expressions put there.
func TestAsOthers(t *testing.T) {
	g := grower{rand.New(rand.NewSource(173))}
	patterns := []string{`a`, `(a)(b)?`, `(?P<x>a+)|(?P<y>b)`, `a*`, `(a|b)(-)?`, `\b`, `^`, `(.)(.)`, `(?:(a)|(b))+`, `[^a]`, `é`, `$`, ``, `(a*)(b*)`}
	for _, pattern := range patterns {
		r, other := made(t, pattern), regexp.MustCompile(`(?m:`+pattern+`)`)
		for range 300 {
			b := g.text(30)
			var template strings.Builder
			for range g.Intn(6) {
				template.WriteString([]string{"x", "$$", "${0}", "${" + strconv.Itoa(g.Intn(r.Groups()+1)) + "}", "{é}", "\xFF"}[g.Intn(6)])
			}
			want := other.ReplaceAll(b, []byte(template.String()))
			for _, q := range byEach(t, r) {
				if got := allOf(t, q, b, template.String()); !bytes.Equal(got, want) {
					t.Errorf("%q in %q by %q: %q; want %q", pattern, b, template.String(), got, want)
				}
			}
		}
	}
}

// TestManyParts: P17.3: millions of parts that put nothing there, at each of many matches: it takes no longer than what is put there.
func TestManyParts(t *testing.T) {
	const long = api.MaxText
	b := many(long/8, "b")
	for _, x := range []struct{ pattern, unit, ahead, want string }{
		{`(a)?b`, "$1", "", ""},
		{`(a)?b`, "$1", "x", "x"},
		{`(a)?(c)?b`, "$1$2", "x$0", "xb"},
		{`(a)?(c)?()b`, "$1$2$3", "$0", "b"},
		{`(?P<x>a)?(b)`, "${x}", "$2", "b"},
	} {
		began := time.Now()
		template := x.ahead + strings.Repeat(x.unit, (long-len(x.ahead))/len(x.unit))
		got := allOf(t, made(t, x.pattern), b, template)
		if !bytes.Equal(got, many(len(b), x.want)) {
			t.Errorf("%q by %s: %s", x.pattern, shown(template), shown(got))
		}
		if took := time.Since(began); took > 30*time.Second {
			t.Errorf("%q by %s: %v", x.pattern, shown(template), took)
		}
	}
	// Now and then, a part that mostly puts nothing there does.
	b[100], b[200] = 'a', 'a'
	template := "x" + strings.Repeat("$1", 1000) + "$1y$1"
	row := []byte("x" + strings.Repeat("a", 1001) + "ya")
	want := bytes.Join([][]byte{many(100, "xy"), row, many(99, "xy"), row, many(len(b)-201, "xy")}, nil)
	if got := allOf(t, made(t, `(a)|b`), b, template); !bytes.Equal(got, want) {
		t.Errorf("%s; want %s", shown(got), shown(want))
	}
}

// FuzzAll holds ever more patterns, bytes and templates against the models.
func FuzzAll(f *testing.F) {
	for _, x := range examples() {
		f.Add(x.pattern, []byte(x.text), x.template)
	}
	f.Fuzz(func(t *testing.T, pattern string, b []byte, template string) {
		if len(b) > 200 || len(pattern) > 60 || len(template) > 200 {
			return
		}
		r, err := regex.Compile(pattern)
		if err != nil {
			return
		}
		if _, errno := with(t, r, 2).All(b, -1); errno != api.OK {
			return
		}
		for _, q := range byEach(t, r) {
			wantModel(t, q, b, template)
			wantModelSplit(t, q, b)
		}
	})
}
