package syntax_test

import (
	"errors"
	"reflect"
	"strings"
	"sync"
	"testing"

	"heron/api"
	"heron/syntax"
)

var everything = class(0, 0xD7FF, 0xE000, api.MaxRune)

// P4.1: the chapter's examples of trees, and one or more for each line of its table.
func TestTrees(t *testing.T) {
	a, b, c := runeOf('a'), runeOf('b'), runeOf('c')
	for _, e := range []struct {
		p    string
		want api.Node
	}{
		{"", empty()},
		{"()", group(1, "", empty())},
		{"a|", alt(a, empty())},
		{"|", alt(empty(), empty())},
		{"|a||b", alt(empty(), a, empty(), b)},
		{"ab*?", cat(a, repeat(0, -1, true, b))},
		{"(?:ab)*", repeat(0, -1, false, cat(a, b))},
		{"a(?:bc)", cat(a, cat(b, c))},
		{"(?:a|b)|c", alt(alt(a, b), c)},
		{"(?:a|b)", alt(a, b)},
		{"(?:)", empty()},
		{"(?:)(?:)", cat(empty(), empty())},
		{"(?:)*", repeat(0, -1, false, empty())},
		{"(?:a*)*?", repeat(0, -1, true, repeat(0, -1, false, a))},
		{"(a)(?P<x>(b))", cat(group(1, "", a), group(2, "x", group(3, "", b)))},
		{"((a)|(b))(c)", cat(group(1, "", alt(group(2, "", a), group(3, "", b))), group(4, "", c))},
		{"(?:(?i:()))(?s:(?P<n>))()", cat(group(1, "", empty()), group(2, "n", empty()), group(3, "", empty()))},
		{"(?i:k[a-c])", cat(class('K', 'K', 'k', 'k'), class('A', 'C', 'a', 'c'))},
		{"(?s:.)", everything},
		{".", class(0, 9, 11, 0xD7FF, 0xE000, api.MaxRune)},
		{"^$\\z", cat(assert(api.BeginLine), assert(api.EndLine), assert(api.EndText))},
		{`\A\b\B`, cat(assert(api.BeginText), assert(api.WordEdge), assert(api.NoWordEdge))},
		{`^*\b{2}?`, cat(repeat(0, -1, false, assert(api.BeginLine)), repeat(2, 2, true, assert(api.WordEdge)))},
		{"[^\\n]", class(0, 9, 11, 0xD7FF, 0xE000, api.MaxRune)},
		{"[\\x{D000}-\\x{F000}]", class(0xD000, 0xD7FF, 0xE000, 0xF000)},
		{"[\\x{D7FF}-\\x{E000}]", class(0xD7FF, 0xD7FF, 0xE000, 0xE000)},
		{"[^\\d\\D]", class()},
		{"[\\d\\D]", everything},
		{"[^\\x{0}-\\x{10FFFF}]", class()},
		{"a*b+c?", cat(repeat(0, -1, false, a), repeat(1, -1, false, b), repeat(0, 1, false, c))},
		{"a*?b+?c??", cat(repeat(0, -1, true, a), repeat(1, -1, true, b), repeat(0, 1, true, c))},
		{"a{2}b{3,}c{0,4}?", cat(repeat(2, 2, false, a), repeat(3, -1, false, b), repeat(0, 4, true, c))},
		{"a{0}b{0,}c{0,0}", cat(repeat(0, 0, false, a), repeat(0, -1, false, b), repeat(0, 0, false, c))},
		{"a{1000}b{1000,}?c{999,1000}", cat(repeat(1000, 1000, false, a), repeat(1000, -1, true, b), repeat(999, 1000, false, c))},
		{`\d`, class('0', '9')},
		{`\s`, class(9, 13, 32, 32)},
		{`\w`, class('0', '9', 'A', 'Z', '_', '_', 'a', 'z')},
		{`\D`, class(0, '0'-1, '9'+1, 0xD7FF, 0xE000, api.MaxRune)},
		{`\S`, class(0, 8, 14, 31, 33, 0xD7FF, 0xE000, api.MaxRune)},
		{`\W`, class(0, '0'-1, '9'+1, 'A'-1, 'Z'+1, '_'-1, '_'+1, 'a'-1, 'z'+1, 0xD7FF, 0xE000, api.MaxRune)},
		{`\n\t\r\f\v\a`, cat(runeOf(10), runeOf(9), runeOf(13), runeOf(12), runeOf(11), runeOf(7))},
		{`[\a-\r]`, class(7, 13)},
		{`[\f][\v][\a][\r][\t][\n]`, cat(runeOf(12), runeOf(11), runeOf(7), runeOf(13), runeOf(9), runeOf(10))},
		{`\x41\x{e9}\xfF\x{0}\x{10ffff}`, cat(runeOf('A'), runeOf(0xE9), runeOf(255), runeOf(0), runeOf(api.MaxRune))},
		{`\x{000041}\x{D7FF}\x{E000}`, cat(runeOf('A'), runeOf(0xD7FF), runeOf(0xE000))},
		{"\x00\n\x7F -,:<>!_", cat(runeOf(0), runeOf(10), runeOf(127), runeOf(' '), runeOf('-'), runeOf(','), runeOf(':'), runeOf('<'), runeOf('>'), runeOf('!'), runeOf('_'))},
		{"\xC3\xA9\xE2\x82\xAC\xF0\x9F\x98\x80\xF4\x8F\xBF\xBF", cat(runeOf(0xE9), runeOf(0x20AC), runeOf(0x1F600), runeOf(api.MaxRune))},
		{"\xC3\xA9*", repeat(0, -1, false, runeOf(0xE9))},
		{"[\xC3\xA9-\xE2\x82\xAC]", class(0xE9, 0x20AC)},
		{"[.+*?(){}|$]", class('$', '$', '(', '+', '.', '.', '?', '?', '{', '}')},
		{`[\]\[\^\-\\]`, class('-', '-', '[', '^')},
		{"[aba-cb]", class('a', 'c')},
		{"[a-a]", class('a', 'a')},
		{"[z\\da]", class('0', '9', 'a', 'a', 'z', 'z')},
		{"(?P<_>)", group(1, "_", empty())},
		{"(?P<aB_9>a|b)", group(1, "aB_9", alt(a, b))},
	} {
		wantTree(t, e.p, e.want)
	}
}

// P4.1: every byte that may stand behind a backslash for itself does, alone and within a class.
func TestSigns(t *testing.T) {
	for b := 33; b < 127; b++ {
		if 'a' <= b && b <= 'z' || 'A' <= b && b <= 'Z' || '0' <= b && b <= '9' {
			continue
		}
		wantTree(t, `\`+string(rune(b)), runeOf(b))
		wantTree(t, `[\`+string(rune(b))+`]`, runeOf(b))
	}
}

// P4.1: flags hold in all that stands within, besides those around, and nowhere else.
func TestFlags(t *testing.T) {
	dot := class(0, 9, 11, 0xD7FF, 0xE000, api.MaxRune)
	both := class('K', 'K', 'k', 'k')
	for _, e := range []struct {
		p    string
		want api.Node
	}{
		{"(?i:k)k", cat(both, runeOf('k'))},
		{"(?s:.).", cat(everything, dot)},
		{"(?is:k.)", cat(both, everything)},
		{"(?i:.)", dot},
		{"(?s:k)", runeOf('k')},
		{"(?:k.)", cat(runeOf('k'), dot)},
		{"(?i:(?s:k.)k.)", cat(cat(both, everything), both, dot)},
		{"(?s:(?i:k.)k.)", cat(cat(both, everything), runeOf('k'), everything)},
		{"(?i:(?:k))", both},
		{"(?i:(k))(k)", cat(group(1, "", both), group(2, "", runeOf('k')))},
		{"(?i:(?P<n>K|k*))", group(1, "n", alt(both, repeat(0, -1, false, both)))},
		{`(?i:\x4b\x{6B})`, cat(both, both)},
		{`(?i:[^k])`, class(0, 'J', 'L', 'j', 'l', 0xD7FF, 0xE000, api.MaxRune)},
		{`(?i:[Z-b])`, class('A', 'B', 'Z', 'b', 'z', 'z')},
		{`(?i:[\w])\w`, cat(class('0', '9', 'A', 'Z', '_', '_', 'a', 'z'), class('0', '9', 'A', 'Z', '_', '_', 'a', 'z'))},
		{"(?i:@`5\xC3\xA9)", cat(runeOf('@'), runeOf('`'), runeOf('5'), runeOf(0xE9))},
		// The long s and the sign of Kelvin are no letters here.
		{"(?i:\xC5\xBF\xE2\x84\xAA)", cat(runeOf(0x17F), runeOf(0x212A))},
	} {
		wantTree(t, e.p, e.want)
	}
}

// P4.1: the chapter's examples of faults.
func TestFaultExamples(t *testing.T) {
	for _, e := range []struct {
		p    string
		code api.Errno
		at   int
	}{
		{"a**", api.ErrSyntax, 2}, {"*", api.ErrSyntax, 0}, {"a{2}{3}", api.ErrSyntax, 4}, {")", api.ErrSyntax, 0}, {"a)", api.ErrSyntax, 1},
		{"(", api.ErrSyntax, 1}, {"[a", api.ErrSyntax, 2}, {`\`, api.ErrSyntax, 1}, {"a{2", api.ErrSyntax, 3}, {`\x{41`, api.ErrSyntax, 5}, {"a\xC3", api.ErrSyntax, 2},
		{"[]a]", api.ErrSyntax, 1}, {"[a-]", api.ErrSyntax, 3}, {"[--a]", api.ErrSyntax, 1}, {`[\b]`, api.ErrSyntax, 2}, {`\q`, api.ErrSyntax, 1}, {`\8`, api.ErrSyntax, 1},
		{"a{,2}", api.ErrSyntax, 2}, {"a{02}", api.ErrSyntax, 3}, {"a{12345}", api.ErrSyntax, 6}, {"(?P<1", api.ErrSyntax, 4}, {"(?si:a)", api.ErrSyntax, 3},
		{"a\xED\xA0\x80", api.ErrSyntax, 2}, {"a\xC3(", api.ErrSyntax, 2},
		{"a{3,2}", api.ErrSyntaxCount, 1}, {"a{1001}", api.ErrSyntaxCount, 1}, {"a{3,2}(", api.ErrSyntax, 7},
		{"[b-a]", api.ErrSyntaxRange, 1}, {`[\x{D800}-a]`, api.ErrSyntaxRune, 1}, {`x\x{110000}`, api.ErrSyntaxRune, 1},
		{"(?P<a>x)(?P<a>y)", api.ErrSyntaxName, 8},
	} {
		wantFault(t, e.p, e.code, e.at)
	}
}

// P4.1: bytes that are no pattern, of every kind.
func TestNoPatterns(t *testing.T) {
	long := strings.Repeat("n", api.MaxName)
	for _, e := range []struct {
		p  string
		at int
	}{
		{"+", 0}, {"?", 0}, {"{", 0}, {"}", 0}, {"]", 0}, {"a]", 1}, {"a}", 1}, {"{1}", 0}, {"|*", 1}, {"(*", 1}, {"(+", 1}, {"(?", 2}, {"(?*", 2},
		{"a*+", 2}, {"a*?*", 3}, {"a???", 3}, {"a{2}?+", 5}, {"a{", 2}, {"a{}", 2}, {"a{x}", 2}, {"a{-1}", 2}, {"a{ 1}", 2}, {"a{1 }", 3}, {"a{1,", 4}, {"a{1,x", 4}, {"a{1,,", 4}, {"a{1,2", 5}, {"a{1,02}", 5}, {"a{1,12345}", 8}, {"a{00}", 3}, {"a{1,2,3}", 5},
		{"(a", 2}, {"(a|", 3}, {"(()", 3}, {"())", 2}, {"(?i", 3}, {"(?ii:", 3}, {"(?s", 3}, {"(?ss:", 3}, {"(?is", 4}, {"(?isi:", 4}, {"(?x:a)", 2}, {"(?i)a", 3}, {"(?-i:a)", 2}, {"(?=a)", 2}, {"(?<n>a)", 2}, {"(?P=n)", 3}, {"(?P>n)", 3}, {"(?P<", 4}, {"(?P<>", 4}, {"(?P<a", 5}, {"(?P<a-", 5}, {"(?P<a>", 6}, {"(?P<\xC3\xA9>", 4}, {"(?p<a>)", 2}, {"(?Pi:", 3}, {"(?iP<a>)", 3},
		{"(?P<" + long + "n>)", 4 + api.MaxName}, {"(?P<" + long, 4 + api.MaxName}, {"(?P<_" + long + ">)", 4 + api.MaxName},
		{`\ `, 1}, {"\\\n", 1}, {"\\\x7F", 1}, {"\\\x00", 1}, {"\\\xC3\xA9", 1}, {`\1`, 1}, {`\0`, 1}, {`\Z`, 1}, {`\G`, 1}, {`\Q`, 1}, {`\p`, 1}, {`\u0041`, 1}, {`\X41`, 1}, {`\N`, 1},
		{`\x`, 2}, {`\x4`, 3}, {`\xg`, 2}, {`\x4g`, 3}, {`\x{`, 3}, {`\x{}`, 3}, {`\x{g}`, 3}, {`\x{4g}`, 4}, {`\x{1234567}`, 9}, {`\x{0000041}`, 9}, {`\x{-1}`, 3}, {`\x{ 41}`, 3},
		{"[", 1}, {"[^", 2}, {"[]", 1}, {"[^]", 2}, {"[^^]", 2}, {"[a^]", 2}, {"[[]", 1}, {"[a[]", 2}, {"[-a]", 1}, {"[a-", 3}, {"[a-b-c]", 4}, {"[a-^]", 3}, {"[a-[]", 3}, {"[a--]", 3}, {`[\d-a]`, 3}, {`[a-\d]`, 4}, {`[\A]`, 2}, {`[\B]`, 2}, {`[\z]`, 2}, {`[\q]`, 2}, {`[\`, 2}, {`[\d`, 3}, {`[a-\`, 4}, {`[a-b`, 4}, {`[\x{}]`, 4}, {`[a-\x4]`, 6}, {"[[:alpha:]]", 1}, {"[a\xC3]", 3}, {"[a-\xFF]", 3},
		{"\x80", 0}, {"\xC0\x80", 0}, {"\xC1\xBF", 0}, {"\xF5\x80\x80\x80", 0}, {"\xFF", 0}, {"\xE0\x9F\xBF", 1}, {"\xE0\xA0\xC0", 2}, {"\xED\xA0\x80", 1}, {"\xF0\x8F\xBF\xBF", 1}, {"\xF4\x90\x80\x80", 1}, {"\xF0\x90\x80", 3}, {"\xF0\x90\x80a", 3}, {"\xE2\x82", 2}, {"\xC3\xA9\xA9", 2},
	} {
		wantFault(t, e.p, api.ErrSyntax, e.at)
		for _, more := range []string{"a", "\xFF", ")", "]"} {
			if e.at < len(e.p) {
				wantFault(t, e.p+more, api.ErrSyntax, e.at)
			}
		}
	}
}

// P4.1: numbers of runes: what is none, at its backslash, within a class and without.
func TestWrongRunes(t *testing.T) {
	for _, wrong := range []string{`\x{D800}`, `\x{dfff}`, `\x{DABC}`, `\x{00D800}`, `\x{110000}`, `\x{FFFFFF}`} {
		for ahead, behind := range map[string]string{"": "", "ab": "*", "(?i:": ")", "[": "]", "[^": "]", "[a-": "]", "[ab\\d": "c]", "x|": "|", "(": "){2}"} {
			wantFault(t, ahead+wrong+behind, api.ErrSyntaxRune, len(ahead))
		}
		wantFault(t, "["+wrong+"-a]", api.ErrSyntaxRune, 1)
		wantFault(t, "["+wrong+`-\x{0}]`, api.ErrSyntaxRune, 1)
		wantFault(t, "["+wrong+"-"+wrong+"]", api.ErrSyntaxRune, 1)
		wantFault(t, `[\x{10FFFF}-`+wrong+"]", api.ErrSyntaxRune, 12)
	}
	for _, right := range []string{`\x{D7FF}`, `\x{E000}`, `\x{10FFFF}`, `\x{0}`, `[\x{D7FF}-\x{E000}]`, `\xD8\xFF`} {
		wantTaken(t, right)
	}
}

// P4.1: ranges whose end is ahead of their beginning.
func TestWrongRanges(t *testing.T) {
	for _, e := range []struct {
		p  string
		at int
	}{
		{"[b-a]", 1}, {"[^b-a]", 2}, {"[ab-a]", 2}, {`[\x{62}-a]`, 1}, {`[a\n-\t]`, 2}, {"[a-bd-c]", 4}, {"[b-ad-c]", 1}, {"[\xE2\x82\xAC-\xC3\xA9]", 1}, {"[x\xE2\x82\xAC-\xC3\xA9]", 2}, {`[\d\w\]-\[]`, 5}, {`[\x{E000}-\x{D7FF}]`, 1}, {"(?i:[a-Z])", 5}, {"[z-a]{5,1}", 1}, {`[\--\,]`, 1},
	} {
		wantFault(t, e.p, api.ErrSyntaxRange, e.at)
	}
	for _, right := range []string{"[a-a]", "[A-z]", "(?i:[Z-a])", `[\x{0}-\x{10FFFF}]`, `[\,-\-]`} {
		wantTaken(t, right)
	}
}

// P4.1: counts up to MaxCount and above it, and such whose second number is below the first.
func TestWrongCounts(t *testing.T) {
	for _, count := range []string{"{1001}", "{9999}", "{1001,}", "{1001,1001}", "{0,1001}", "{1000,1001}", "{1001,1000}", "{1,0}", "{2,1}", "{1000,999}", "{9999,}"} {
		wantFault(t, "a"+count, api.ErrSyntaxCount, 1)
		wantFault(t, "a"+count+"?", api.ErrSyntaxCount, 1)
		wantFault(t, "a{2}|(?:[bc]"+count+")*", api.ErrSyntaxCount, 12)
		wantFault(t, "(\xC3\xA9)"+count+"a{9999}", api.ErrSyntaxCount, 4)
	}
	for _, count := range []string{"{1000}", "{0}", "{1000,}", "{1000,1000}", "{0,1000}", "{0,0}", "{1,1}", "{999,1000}"} {
		wantTaken(t, "a"+count)
		wantTaken(t, "(a"+count+"?)"+count)
	}
}

// P4.1: names that stand twice, and those of MaxName bytes.
func TestNames(t *testing.T) {
	for _, e := range []struct {
		p  string
		at int
	}{
		{"(?P<a>(?P<a>))", 6}, {"(?P<a>)(?P<b>)(?P<a>)", 14}, {"(?P<a>)|(?P<a>)", 8}, {"(?P<a>)(?P<a>)(?P<a>)", 7}, {"(?i:(?P<x_1>))()(?P<x_1>a)", 16},
	} {
		wantFault(t, e.p, api.ErrSyntaxName, e.at)
	}
	wantTaken(t, "(?P<a>)(?P<A>)(?P<aa>)(?P<_>)(?P<a_>)")
	long := strings.Repeat("n", api.MaxName)
	wantTree(t, "(?P<"+long+">)", group(1, long, empty()))
	wantTree(t, "(?P<"+long[1:]+">)(?P<"+long+">)", cat(group(1, long[1:], empty()), group(2, long, empty())))
	wantFault(t, "(?P<"+long+">)(?P<"+long+">)", api.ErrSyntaxName, 7-1+api.MaxName)
	wantFault(t, "(?P<"+long+"n>)", api.ErrSyntax, 4+api.MaxName)
}

// nested is a pattern of some groups within one another.
func nested(open string, n int) string { return strings.Repeat(open, n) + strings.Repeat(")", n) }

// P4.1: MaxNest groups within one another, of any kind, and one more.
func TestNest(t *testing.T) {
	for _, open := range []string{"(", "(?:", "(?i:", "(?s:", "(?is:", "(a|", "(?:a*"} {
		wantTaken(t, nested(open, api.MaxNest))
		wantTaken(t, nested(open, api.MaxNest)+nested("(?:", api.MaxNest))
		at := strings.LastIndex(nested(open, api.MaxNest+1), "(")
		wantFault(t, nested(open, api.MaxNest+1), api.ErrSyntaxNest, at)
		wantFault(t, nested(open, api.MaxNest+2), api.ErrSyntaxNest, at)
		wantFault(t, nested(open, 5000), api.ErrSyntaxNest, at)
	}
	ahead := strings.Repeat("(?:", api.MaxNest)
	behind := strings.Repeat(")", api.MaxNest)
	for _, inner := range []string{"()", "(?:)", "(?i:a)", "(?P<n>)"} {
		wantFault(t, ahead+"ab"+inner+behind, api.ErrSyntaxNest, len(ahead)+2)
		wantTaken(t, ahead+"ab"+behind+inner)
		wantTaken(t, ahead+"a)"+inner+behind[1:])
	}
	// A name stands at a group ahead: its number is below that of too many groups open.
	wantFault(t, "(?P<n>)"+ahead+"(?P<n>)"+behind, api.ErrSyntaxName, 7+len(ahead))
}

// P4.1: MaxGroups capture groups and one more; others are not counted.
func TestGroups(t *testing.T) {
	many := strings.Repeat("()", api.MaxGroups)
	wantTaken(t, many)
	wantTaken(t, many+strings.Repeat("(?:)", 600)+"(?is:)")
	wantTaken(t, strings.Repeat("(?:)", 600)+many)
	wantFault(t, many+"()", api.ErrSyntaxGroups, 2*api.MaxGroups)
	wantFault(t, many+"a(?P<n>)()", api.ErrSyntaxGroups, 2*api.MaxGroups+1)
	wantFault(t, strings.Repeat("()", 3*api.MaxGroups), api.ErrSyntaxGroups, 2*api.MaxGroups)
	tree, err := syntax.Parse(many)
	if err != nil || len(tree.Subs) != api.MaxGroups {
		t.Fatalf("%d groups, %v", len(tree.Subs), err)
	}
	for i, sub := range tree.Subs {
		if !same(sub, group(i+1, "", empty())) {
			t.Fatalf("at %d: %v", i, sub)
		}
	}
	// Of several at one bracket, the least number.
	most := "(?P<n>)" + strings.Repeat("()", api.MaxGroups-1)
	wantFault(t, most+"(?P<n>)", api.ErrSyntaxName, len(most))
	wantFault(t, most+"(?P<m>)", api.ErrSyntaxGroups, len(most))
	open := strings.Repeat("(?:", api.MaxNest)
	behind := strings.Repeat(")", api.MaxNest)
	wantFault(t, most+open+"()"+behind, api.ErrSyntaxNest, len(most+open))
	wantFault(t, most+open+"(?P<n>)"+behind, api.ErrSyntaxName, len(most+open))
	wantFault(t, most+open+"(?:)"+behind, api.ErrSyntaxNest, len(most+open))
}

// P4.1: faults ahead of others, and what cannot stand ahead of all of them.
func TestFirstFault(t *testing.T) {
	wrong := []struct {
		p    string
		code api.Errno
		at   int
	}{
		{"[b-a]", api.ErrSyntaxRange, 1}, {`\x{D800}`, api.ErrSyntaxRune, 0}, {"a{2,1}", api.ErrSyntaxCount, 1}, {"(?P<n>)", api.ErrSyntaxName, 0},
		{nested("(?:", api.MaxNest+1), api.ErrSyntaxNest, 3 * api.MaxNest}, {"[" + runesApart(0x1000, api.MaxRanges+1) + "]", api.ErrBig, 0},
	}
	for _, one := range wrong {
		wantFault(t, "(?P<n>)"+one.p, one.code, 7+one.at)
		for _, two := range wrong {
			wantFault(t, "(?P<n>)"+one.p+two.p, one.code, 7+one.at)
			wantFault(t, "(?P<n>)ab|"+one.p+"|"+two.p+"|c*", one.code, 10+one.at)
		}
		p := "(?P<n>)" + one.p
		for _, last := range []string{")", "]", "\\q", "\x80"} {
			wantFault(t, p+last, api.ErrSyntax, len(p+last)-1)
			wantFault(t, p+last+one.p, api.ErrSyntax, len(p+last)-1)
		}
		wantFault(t, p+"(", api.ErrSyntax, len(p)+1)
		wantFault(t, p+"\xC3", api.ErrSyntax, len(p)+1)
		wantFault(t, p+strings.Repeat("a", api.MaxPattern), api.ErrLong, -1)
	}
	wantFault(t, `[\x{D800}b-a]`, api.ErrSyntaxRune, 1)
	wantFault(t, `[b-a\x{D800}]`, api.ErrSyntaxRange, 1)
	wantFault(t, `[b-\x{D800}]{2,1}`, api.ErrSyntaxRune, 3)
}

// runesApart is some runes from one on, none the neighbour of another.
func runesApart(from, n int) string {
	var b strings.Builder
	for i := range n {
		b.WriteRune(rune(from + 2*i))
	}
	return b.String()
}

// P4.1: classes of up to MaxRanges ranges, and of more.
func TestBigClasses(t *testing.T) {
	const from, most = 0x1000, api.MaxRanges
	full := runesApart(from, most)
	wantTaken(t, "["+full+"]")
	wantTaken(t, "["+full+full+"]")
	wantTaken(t, "["+full+`\x{1001}`+string(rune(from+2*most))+"]") // two are neighbours
	wantTaken(t, "["+full+`\x{2000}-\x{4000}`+"\xF0\x9F\x98\x80]")
	wantTaken(t, "["+full+"]["+full+"]")
	wantFault(t, "["+full+"a]", api.ErrBig, 0)
	wantFault(t, "[a"+full+"]", api.ErrBig, 0)
	wantFault(t, "x(["+full+`\d]*)`, api.ErrBig, 2)
	wantFault(t, "["+full+"]["+full+"a]", api.ErrBig, len(full)+2)
	// A range over the surrogates is two.
	wantTaken(t, "["+runesApart(from, most-2)+`\x{D7FF}-\x{E000}]`)
	wantFault(t, "["+runesApart(from, most-1)+`\x{D7FF}-\x{E000}]`, api.ErrBig, 0)
}

// P4.1: of a class of all but its items, both may be too many: the items, and what is left.
func TestBigNegated(t *testing.T) {
	const from, most = 0x1000, api.MaxRanges
	// n items have n + 1 ranges between them, and one more by the surrogates.
	wantTaken(t, "[^"+runesApart(from, most-2)+"]")
	wantFault(t, "[^"+runesApart(from, most-1)+"]", api.ErrBig, 0)
	wantFault(t, "[^"+runesApart(from, most)+"]", api.ErrBig, 0)
	wantFault(t, "[^"+runesApart(from, most+1)+"]", api.ErrBig, 0)
	// From 0 to MaxRune and over the surrogates: what is left has two fewer than the items.
	ends := `\x{0}` + `\x{C000}-\x{10FFFF}`
	wantTaken(t, "[^"+ends+runesApart(from, most-3)+"]")
	wantFault(t, "a[^"+ends+runesApart(from, most-2)+"]", api.ErrBig, 1)
	wantFault(t, "a[^"+ends+runesApart(from, most-1)+"]", api.ErrBig, 1)
}

// P4.1: it is about case how many ranges a class has.
func TestBigAboutCase(t *testing.T) {
	const from, most = 0x1000, api.MaxRanges
	more := "k" + runesApart(from, most-1)
	wantTaken(t, "["+more+"]")
	wantFault(t, "(?i:["+more+"])", api.ErrBig, 4)
	wantTaken(t, "(?i:[k"+runesApart(from, most-2)+"])")
	// Four letters apart, which with their other cases are two ranges.
	fewer := "AbCd" + runesApart(from, most-2)
	wantFault(t, "["+fewer+"]", api.ErrBig, 0)
	wantTaken(t, "(?i:["+fewer+"])")
	wantFault(t, "(?i:["+fewer+"k])", api.ErrBig, 4)
	// What is left of all but some.
	wantTaken(t, "[^k"+runesApart(from, most-3)+"]")
	wantFault(t, "(?i:[^k"+runesApart(from, most-3)+"])", api.ErrBig, 4)
	wantTaken(t, "(?i:[^k"+runesApart(from, most-4)+"])")
}

// P4.1: items of what is wrong are left out of how many ranges a class has.
func TestBigWithoutWrong(t *testing.T) {
	const from, most = 0x1000, api.MaxRanges
	full, over := runesApart(from, most), runesApart(from, most+1)
	for _, e := range []struct {
		item string
		code api.Errno
		at   int
	}{
		{`\x{D800}`, api.ErrSyntaxRune, 0}, {`\x{110000}`, api.ErrSyntaxRune, 0}, {`\x{0}-\x{110000}`, api.ErrSyntaxRune, 6}, {`\x{D800}-\x{10FFFF}`, api.ErrSyntaxRune, 0},
		{"b-a", api.ErrSyntaxRange, 0}, {`\x{10FFFF}-\x{0}`, api.ErrSyntaxRange, 0}, {`\x{10FFFF}-a`, api.ErrSyntaxRange, 0},
	} {
		wantFault(t, "["+e.item+full+"]", e.code, 1+e.at)
		wantFault(t, "["+full+e.item+"]", e.code, 1+len(full)+e.at)
		wantFault(t, "["+e.item+over+"]", api.ErrBig, 0)
		wantFault(t, "["+over+e.item+"]", api.ErrBig, 0)
		wantFault(t, "[^"+full+e.item+"]", api.ErrBig, 0)
		wantFault(t, "["+e.item+"]["+over+"]", e.code, 1+e.at)
	}
}

// P4.1: MaxPattern bytes of every kind, and one more, whatever they are.
func TestLong(t *testing.T) {
	for _, part := range []string{"a", "|", "()", "(?:)", "[a]", "a*", `\w`, `\xFF`, ".", `\x{10FFFF}`, "\xC3\xA9", "(?i:k|)", "(", ")", "[", `\`, "\xFF", "\x00", "a{1000,1000}?", "(?P<n>)"} {
		p := strings.Repeat(part, api.MaxPattern/len(part)+1)
		wantFault(t, p[:api.MaxPattern+1], api.ErrLong, -1)
		wantFault(t, p+p, api.ErrLong, -1)
		p = p[:api.MaxPattern]
		if fault := faultOf(t, p); fault.Code == api.ErrLong || fault.At < 0 || fault.At > len(p) {
			t.Errorf("%q: %v", shown(p), fault)
		}
	}
	for _, part := range []string{"a", "|", "(?:)", "a*", `\w`, `\xFF`, `[^a-z\d]`, "\xC3\xA9", "(?is:k|.*?)"} {
		n := api.MaxPattern / len(part)
		wantTaken(t, strings.Repeat(part, n)+strings.Repeat("x", api.MaxPattern-n*len(part)))
	}
	wantFault(t, strings.Repeat("(", api.MaxPattern), api.ErrSyntax, api.MaxPattern)
	wantFault(t, nested("(", api.MaxPattern/2), api.ErrSyntaxNest, api.MaxNest)
	wantFault(t, strings.Repeat("(?i:", api.MaxPattern/4), api.ErrSyntax, api.MaxPattern)
	wantFault(t, strings.Repeat("a", api.MaxPattern-1)+")", api.ErrSyntax, api.MaxPattern-1)
	wantFault(t, strings.Repeat("a", api.MaxPattern-1)+"\xC3", api.ErrSyntax, api.MaxPattern)
	var all []api.Node
	for range api.MaxPattern {
		all = append(all, runeOf('a'))
	}
	wantTree(t, strings.Repeat("a", api.MaxPattern), cat(all...))
}

// P4.1: no error beside a tree is nil itself; one that is told is, or wraps, its fault and its number.
func TestErrors(t *testing.T) {
	if tree, err := syntax.Parse("a"); err != nil || !same(tree, runeOf('a')) {
		t.Errorf("%v, %v", tree, err)
	}
	for p, want := range map[string]api.Fault{
		"(": {Code: api.ErrSyntax, At: 1}, "a{2,1}": {Code: api.ErrSyntaxCount, At: 1}, strings.Repeat("a", api.MaxPattern+1): {Code: api.ErrLong, At: -1},
	} {
		tree, err := syntax.Parse(p)
		var fault api.Fault
		if !errors.As(err, &fault) || fault != want || !errors.Is(err, want.Code) || !reflect.DeepEqual(tree, api.Node{}) {
			t.Errorf("%q: %s, %v", shown(p), shown(tree), err)
		}
	}
}

// P4.2: no two lists share memory, spare room too, within a tree or of two answers.
func TestNewMemory(t *testing.T) {
	for _, p := range append(wholes, `\d\d\D\D\w\w\W\s\S`, "....(?s:..)", "aaaa|aaaa|aaaa", "(a)(b)(c)((d)|(e))", `[\d][\d][^\d](?i:[\d][\d]aa)`, "a{2}a{2}(?:ab){3}(?:ab)*", strings.Repeat("(ab|c*)", 300)) {
		one, err := syntax.Parse(p)
		if err != nil {
			continue
		}
		two, _ := syntax.Parse(p)
		wantApart(t, p, one, two)
		scrawl(one)
		three, _ := syntax.Parse(p)
		if !same(two, three) {
			t.Errorf("%q: an answer hangs on another one", shown(p))
		}
	}
}

// scrawl writes over all lists of a tree, and over their spare room.
func scrawl(n api.Node) {
	for _, sub := range n.Subs {
		scrawl(sub)
	}
	for i := range n.Ranges[:cap(n.Ranges)] {
		n.Ranges[:cap(n.Ranges)][i] = api.Range{Lo: 7, Hi: 5}
	}
	for i := range n.Subs[:cap(n.Subs)] {
		n.Subs[:cap(n.Subs)][i] = api.Node{Kind: 99}
	}
}

// What is answered hangs on the pattern alone, though many are read at one time.
func TestManyAtOneTime(t *testing.T) {
	var all sync.WaitGroup
	for range 8 {
		all.Go(func() {
			for range 50 {
				wantTree(t, "(?i:k)(?P<n>k)", cat(class('K', 'K', 'k', 'k'), group(1, "n", runeOf('k'))))
				wantFault(t, "(?P<n>)(?P<n>)", api.ErrSyntaxName, 7)
				wantFault(t, "a{2,1})", api.ErrSyntax, 6)
			}
		})
	}
	all.Wait()
}

// P4.4: the deepest trees, and those of the most nodes, are right.
func TestRightAtTheEdges(t *testing.T) {
	for _, p := range []string{
		strings.Repeat("(a|(?:b*", api.MaxNest/2) + strings.Repeat(")+)?", api.MaxNest/2), strings.Repeat("(a|b", api.MaxNest) + strings.Repeat(")*", api.MaxNest), strings.Repeat("(?:", api.MaxNest) + strings.Repeat(")*", api.MaxNest),
		strings.Repeat("(?:a", api.MaxNest) + strings.Repeat("c)*d|", api.MaxNest), strings.Repeat("(?:", api.MaxNest) + "a" + strings.Repeat(")", api.MaxNest), strings.Repeat("(?i:|", api.MaxNest) + strings.Repeat(")", api.MaxNest),
		strings.Repeat("|", api.MaxPattern), strings.Repeat("ab|", api.MaxPattern/3), strings.Repeat("(?:|)", api.MaxPattern/5), strings.Repeat("a*", api.MaxPattern/2),
		"(?:" + strings.Repeat("a*|", api.MaxPattern/3-2) + ")*",
	} {
		wantTaken(t, p)
	}
}

// P4.5: as many groups within one another as can be put between brackets, and one more.
func TestPutTogetherDeep(t *testing.T) {
	p := strings.Repeat("(?:a", api.MaxNest-1) + "b" + strings.Repeat(")", api.MaxNest-1)
	tree, err := syntax.Parse(p)
	if err != nil {
		t.Fatal(err)
	}
	wantTree(t, "(?:"+p+")", tree)
	wantTree(t, p+"|"+p, alt(tree, tree))
	wantTree(t, p+"|", alt(tree, empty()))
	wantFault(t, "(?:(?:"+p+"))", api.ErrSyntaxNest, 6+4*(api.MaxNest-2))
	wantTree(t, "a|(?:b|c)|"+"d|e", alt(runeOf('a'), alt(runeOf('b'), runeOf('c')), runeOf('d'), runeOf('e')))
	half := strings.Repeat("a", api.MaxPattern/2)
	wantTaken(t, half[1:]+"|"+half)
	wantFault(t, half+"|"+half, api.ErrLong, -1)
}
