package shell_test

import (
	"fmt"
	"strings"
	"testing"

	"heron/api"
)

// wrongPattern is a pattern that regex.Compile refuses, and how.
type wrongPattern struct {
	pattern string
	code    api.Errno
	at      int
}

// told is what is told of it.
func (x wrongPattern) told() string { return fmt.Sprintf("fault %d at %d", x.code, x.at) }

// great is a pattern that is fine alone, but not thrice in a set; by the engine 2 it is refused in 2000 bytes.
const great = `(?:a{500}){20}`

// wrongPatterns are such patterns, of each Code.
func wrongPatterns() []wrongPattern {
	// Each second rune from 256 on, so many of them: as many ranges.
	var tooManyRanges strings.Builder
	for i := range api.MaxRanges + 1 {
		tooManyRanges.WriteRune(rune(0x100 + 2*i))
	}
	return []wrongPattern{
		{`b(`, api.ErrSyntax, 2}, {`[`, api.ErrSyntax, 1}, {`a)`, api.ErrSyntax, 1}, {`*`, api.ErrSyntax, 0}, {"a\xC3(", api.ErrSyntax, 2}, {"\xFF", api.ErrSyntax, 0}, {`a{3,2}(`, api.ErrSyntax, 7}, {` (`, api.ErrSyntax, 2}, {`( `, api.ErrSyntax, 2}, {"\t)", api.ErrSyntax, 1},
		{`ab\x{D800}`, api.ErrSyntaxRune, 2}, {`\x{110000}`, api.ErrSyntaxRune, 0},
		{`[b-a]`, api.ErrSyntaxRange, 1},
		{`a{1001}`, api.ErrSyntaxCount, 1}, {`ab{2,1}`, api.ErrSyntaxCount, 2},
		{`(?P<a>x)(?P<a>y)`, api.ErrSyntaxName, 8},
		{strings.Repeat(`(`, api.MaxNest+1) + strings.Repeat(`)`, api.MaxNest+1), api.ErrSyntaxNest, api.MaxNest},
		{strings.Repeat(`()`, api.MaxGroups+1), api.ErrSyntaxGroups, 2 * api.MaxGroups},
		{`ab[` + tooManyRanges.String() + `]`, api.ErrBig, 2},
		{`(?:a{1000}){1000}`, api.ErrBig, -1}, {`(?:a{999}){20}a{18}`, api.ErrBig, -1},
		{strings.Repeat(`a`, api.MaxPattern+1), api.ErrLong, -1}, {strings.Repeat(`(`, api.MaxPattern+1), api.ErrLong, -1},
	}
}

// TestFaults: P20.2: each error of regex.Compile, with its place, and at what is just fine.
func TestFaults(t *testing.T) {
	for _, x := range wrongPatterns() {
		wantTold(t, `pattern p `+x.pattern, x.told()+"\n")
		wantTold(t, linesOf(`pattern p `+x.pattern, `groups p`, `text t a`, `match p t`), linesOf(x.told(), `error 200`, `ok`, `error 200`))
	}
	for _, pattern := range []string{strings.Repeat(`(`, api.MaxNest) + strings.Repeat(`)`, api.MaxNest), strings.Repeat(`()`, api.MaxGroups), `a{1000}`, `(?:a{999}){20}a{17}`, strings.Repeat(`[a]`, 19990), `\x{10FFFF}`, strings.Repeat(`(?:)`, api.MaxPattern/4)} {
		wantTold(t, `pattern p `+pattern, "ok\n")
	}
}

// TestEngineErrors: P20.2: the errors of With.
func TestEngineErrors(t *testing.T) {
	for _, n := range []string{`-1`, `5`, `6`, `9`, `100`, `-999999999`, `999999999`} {
		wantWithout(t, `engine p `+n, "error 1\n")
		wantWithout(t, `engine s `+n, "error 1\n")
	}
	for _, pattern := range []string{`a`, ``, `a\A`, `\Aa*a`, `(?:\Aa)?`, `^a`, `\Aa|b`, `\b\A`} {
		wantTold(t, linesOf(`pattern p `+pattern, `engine p 3`), "ok\nerror 160\n")
	}
	for _, pattern := range []string{`\Aa`, `\A`, `(\A)a`, `\Aa|\Ab`, `(?:\Aa)+`, `\Aa*b`} {
		wantTold(t, linesOf(`pattern p `+pattern, `engine p 3`), "ok\nok\n")
	}
	wantWithout(t, `engine p 3`, "error 160\n")
}

// TestTooGreatMaps: P20.2: by the engine 2 each search of too many pairs is refused, by each command that searches; where nothing is searched for, nothing is. Sets have their own engines.
func TestTooGreatMaps(t *testing.T) {
	ahead := linesOf(`pattern p `+great, `engine p 2`, `text t `+strings.Repeat("a", 2000), `text u `+strings.Repeat("a", 100))
	for _, line := range []string{`match p t`, `find p t`, `submatch p t`, `all p t -1`, `all p t 1`, `all p t 999999999`, `replace p t x`, `replace p t`, `split p t -1`, `split p t 2`} {
		wantLast(t, ahead, line, "error 3\n")
		wantLast(t, ahead+"engine p 1\n", line, byPike(line))
	}
	for _, x := range [][2]string{
		{`all p t 0`, `none`}, {`split p t 0`, `0`}, {`split p t 1`, `1 "` + strings.Repeat("a", 2000) + `"`},
		{`match p u`, `no`}, {`find p u`, `none`}, {`all p u -1`, `none`}, {`split p u -1`, `1 "` + strings.Repeat("a", 100) + `"`}, {`replace p u x`, `"` + strings.Repeat("a", 100) + `"`},
		{`which t p`, `none`}, {`first t p`, `none`}, {`groups p`, `0`},
		// What is wrong with the template comes first.
		{`replace p t $`, `error 170`}, {`replace p t $1`, `error 170`}, {`replace p u ${x}`, `error 170`},
	} {
		wantLast(t, ahead, x[0], x[1]+"\n")
	}
}

// byPike is what a line of TestTooGreatMaps tells by an engine that refuses nothing: there is no match in so few bytes.
func byPike(line string) string {
	whole := `"` + strings.Repeat("a", 2000) + `"`
	switch strings.Fields(line)[0] {
	case "match":
		return "no\n"
	case "replace":
		return whole + "\n"
	case "split":
		return "1 " + whole + "\n"
	}
	return "none\n"
}

// TestTemplates: P20.2: the errors of replace.All: templates that may not be, and answers that would be too great.
func TestTemplates(t *testing.T) {
	for _, x := range [][2]string{
		{`$`, ``}, {`a$`, ``}, {`$2`, ``}, {`$10`, ``}, {`${`, ``}, {`${x`, ``}, {`${y}`, ``}, {`${}`, ``}, {`$x`, ``}, {`$ 1`, ``}, {`$$$`, ``}, {"$\xFF", ``}, {`$-1`, ``}, {`${ x}`, ``},
		{`$$`, `"x$-$"`}, {`$0`, `"xabb-a"`}, {`$1`, `"xbb-"`}, {`${x}`, `"xbb-"`}, {`$01`, `"xbb-"`}, {`${1}0`, `"xbb0-0"`}, {` $0 `, `"x abb - a "`}, {`\n$0\`, `"x\\nabb\\-\\na\\"`}, {`"$0"`, `"x\x22abb\x22-\x22a\x22"`},
	} {
		want := x[1]
		if want == `` {
			want = `error 170`
		}
		wantWithout(t, `replace p t `+x[0], want+"\n")
	}
	// 4096 times 1024 bytes are as many as may be.
	ahead := linesOf(`pattern p a`, `text t `+strings.Repeat("a", 4096))
	wantLast(t, ahead, `replace p t `+strings.Repeat("x", 1024), `"`+strings.Repeat("x", api.MaxText)+"\"\n")
	wantLast(t, ahead, `replace p t `+strings.Repeat("x", 1025), "error 3\n")
	wantLast(t, ahead, `replace p t `+strings.Repeat("$0", 1025), "error 3\n")
	wantLast(t, ahead, `replace p t `+strings.Repeat("x", 1025)+`$`, "error 170\n")
	wantLast(t, linesOf(`pattern p a`, `text t `+strings.Repeat("a", 4096)+`b`), `replace p t `+strings.Repeat("x", 1024), "error 3\n")
}

// TestSetErrors: P20.2: the errors of many.Compile: too many patterns, and patterns too great together; a name that was not given comes ahead of both.
func TestSetErrors(t *testing.T) {
	ahead := linesOf(`pattern a (a)`, `pattern g `+great, `text t -a`)
	var all []string
	for i := range api.MaxSet {
		all = append(all, itoa(i))
	}
	full := strings.Repeat(` a`, api.MaxSet)
	wantLast(t, ahead, `which t`+full, strings.Join(all, " ")+"\n")
	wantLast(t, ahead, `first t`+full, "0 1 2 1 2\n")
	for _, command := range []string{`which`, `first`} {
		wantLast(t, ahead, command+` t`+full+` a`, "error 1\n")
		wantLast(t, ahead, command+` t`+strings.Repeat(full, 100), "error 1\n")
		wantLast(t, ahead, command+` t`+strings.Repeat(` g`, api.MaxSet+1), "error 1\n")
		wantLast(t, ahead, command+` t`+full+` x`, "error 200\n")
		wantLast(t, ahead, command+` t x`+full, "error 200\n")
		wantLast(t, ahead, command+` t g g`, "error 3\n")
		wantLast(t, ahead, command+` t a g a g g`, "error 3\n")
		wantLast(t, ahead, command+` t g g x`, "error 200\n")
		wantLast(t, ahead, command+` x g g`, "error 200\n")
		wantLast(t, ahead, command+` t g`, "none\n")
	}
	wantLast(t, ahead, `which t g a`, "1\n")
	wantLast(t, ahead, `first t g a`, "1 1 2 1 2\n")
}
