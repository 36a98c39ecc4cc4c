package regex_test

import (
	"errors"
	"slices"
	"strconv"
	"strings"
	"testing"

	"heron/api"
	"heron/regex"
)

// wantFault fails, if Compile does not answer that fault, and nothing beside it: it is told by api.Seen, its number by errors.Is, and no other one.
func wantFault(t testing.TB, pattern string, code api.Errno, at int) {
	t.Helper()
	r, err := regex.Compile(pattern)
	want := api.Fault{Code: code, At: at}
	if f, is := api.Seen(err); r != nil || err == nil || !is || f != want {
		t.Errorf("%.100q (%d): %v, %v; want %v", pattern, len(pattern), r, err, want)
	}
	for other := range api.Errno(210) {
		if errors.Is(err, other) != (other == code) {
			t.Errorf("%.100q (%d): that it is the error %d is told as %v", pattern, len(pattern), other, other != code)
		}
	}
	if err != nil && !strings.Contains(err.Error(), want.Error()) {
		t.Errorf("%.100q (%d): it tells itself as %q", pattern, len(pattern), err.Error())
	}
}

// TestFaults: P16.1, W8, T1: patterns with faults of each Code, and their places.
func TestFaults(t *testing.T) {
	// Each second rune from 256 on, so many of them: as many ranges.
	var runes strings.Builder
	for i := range api.MaxRanges + 1 {
		runes.WriteRune(rune(0x100 + 2*i))
	}
	tooManyRanges := runes.String()
	for _, x := range []struct {
		pattern string
		code    api.Errno
		at      int
	}{
		{`a(`, api.ErrSyntax, 2}, {`(a`, api.ErrSyntax, 2}, {`a)`, api.ErrSyntax, 1}, {`*`, api.ErrSyntax, 0}, {`a**`, api.ErrSyntax, 2}, {`[`, api.ErrSyntax, 1}, {`\`, api.ErrSyntax, 1}, {`\q`, api.ErrSyntax, 1}, {"a\xC3(", api.ErrSyntax, 2}, {"\xFF", api.ErrSyntax, 0}, {`a{3,2}(`, api.ErrSyntax, 7},
		{`\x{110000}`, api.ErrSyntaxRune, 0}, {`ab\x{D800}`, api.ErrSyntaxRune, 2}, {`[a\x{DFFF}]`, api.ErrSyntaxRune, 2},
		{`[b-a]`, api.ErrSyntaxRange, 1}, {`x[ac-b]`, api.ErrSyntaxRange, 3},
		{`a{1001}`, api.ErrSyntaxCount, 1}, {`a{2,1}`, api.ErrSyntaxCount, 1}, {`(?:ab){1,1001}`, api.ErrSyntaxCount, 6},
		{`(?P<a>x)(?P<a>y)`, api.ErrSyntaxName, 8},
		{strings.Repeat(`(`, api.MaxNest+1) + strings.Repeat(`)`, api.MaxNest+1), api.ErrSyntaxNest, api.MaxNest},
		{strings.Repeat(`()`, api.MaxGroups+1), api.ErrSyntaxGroups, 2 * api.MaxGroups},
		{`ab[` + tooManyRanges + `]`, api.ErrBig, 2},
		{strings.Repeat(`a`, api.MaxPattern+1), api.ErrLong, -1}, {strings.Repeat(`(`, api.MaxPattern+1), api.ErrLong, -1},
		// Of two the one that is ahead.
		{`[b-a]a{1001}`, api.ErrSyntaxRange, 1}, {`a{1001}[b-a]`, api.ErrSyntaxCount, 1},
		// A program that is too great comes behind all that is wrong with the pattern.
		{`(?:a{1000}){1000}[b-a]`, api.ErrSyntaxRange, 18}, {`(?:a{1000}){1000}(`, api.ErrSyntax, 18},
	} {
		wantFault(t, x.pattern, x.code, x.at)
	}
}

// TestTooGreat: P16.1: patterns whose program is too great have no place; at the limit, one is made.
func TestTooGreat(t *testing.T) {
	for _, pattern := range []string{
		`(?:a{1000}){1000}`, `(?:a{1000}){20}`, `(?:(?:(?:a{1000}){1000}){1000}){1000}`, `((?:a*){900}b{900}){10}`, `(?:(?:){1000}){1000}(?:a?){1000}(?:(?:b|c){500}){14}`,
		// 3 and 19998: one more than there may be.
		`(?:a{999}){20}a{18}`,
	} {
		wantFault(t, pattern, api.ErrBig, -1)
	}
	// 3 and 19997: as many as there may be, by each engine, in both directions.
	const most = `b(?:a{999}){20}a{16}`
	if insts := len(programOf(t, most).Insts); insts != api.MaxInsts {
		t.Fatalf("%d instructions", insts)
	}
	count := api.MaxInsts - 3
	b := []byte("ab" + strings.Repeat("a", count-1) + "c")
	for _, engine := range []int{0, 1, 4} {
		r := with(t, made(t, most), engine)
		wantFirst(t, r, b, []int{1, count + 1})
		wantFirst(t, r, b[2:], nil)
		wantSome(t, r, b, pairs(1, count+1), -1)
	}
	wantRefused(t, with(t, made(t, most), 2), b, api.ErrBig)
	// Counts and groups within one another: the mirror's program can be made wherever the program can.
	for _, pattern := range []string{`(?:(?:(a?){30}){30}){5}b`, `((((a{3}|b){4}|c){5}|d){6})`, strings.Repeat(`(`, api.MaxNest) + `a` + strings.Repeat(`){0,1}`, api.MaxNest) + `b`, `(a?){1000}(?:(?:b?)?){1000}c`} {
		b := []byte(strings.Repeat("-", 200) + "aabccdddddddddc")
		want, errno := with(t, made(t, pattern), 1).Submatch(b)
		if errno != api.OK || len(want) == 0 {
			t.Fatalf("%.40q: %v, %d", pattern, want, errno)
		}
		wantFirst(t, made(t, pattern), b, want)
		wantFirst(t, with(t, made(t, pattern), 4), b, want)
	}
}

// TestGroupsAndNames: P16.2: how many groups there are, and their names, in the order in which they begin, those whose count is 0 too.
func TestGroupsAndNames(t *testing.T) {
	for _, x := range []struct {
		pattern string
		names   []string
	}{
		{``, nil}, {`a`, nil}, {`(?:a)`, nil}, {`(?i:a)`, nil},
		{`(a)(?P<x>b)`, []string{"", "x"}},
		{`(?P<x>a)(b)`, []string{"x", ""}},
		{`(?P<a>(?P<b>(c)(?P<d>)))(?P<e>)`, []string{"a", "b", "", "d", "e"}},
		{`(a){0}(?P<x>b){0}|(?P<y>c){5}`, []string{"", "x", "y"}},
		{`(?:(?P<_>a)|(?P<A1>b)|(?P<a1>c))*`, []string{"_", "A1", "a1"}},
		{`(?P<` + strings.Repeat("n", api.MaxName) + `>)`, []string{strings.Repeat("n", api.MaxName)}},
		{`()()()`, []string{"", "", ""}},
		{strings.Repeat(`(`, api.MaxNest) + strings.Repeat(`)`, api.MaxNest), make([]string, api.MaxNest)},
	} {
		for _, r := range byEach(t, made(t, x.pattern)) {
			if r.Pattern() != x.pattern || r.Groups() != len(x.names) || !slices.Equal(r.Names(), x.names) {
				t.Errorf("%q: %q, %d, %q; want %q", x.pattern, r.Pattern(), r.Groups(), r.Names(), x.names)
			}
		}
	}
	var pattern strings.Builder
	var names []string
	for i := range api.MaxGroups {
		names = append(names, "n"+strconv.Itoa(i))
		pattern.WriteString(`(?P<` + names[i] + `>)`)
	}
	if r := made(t, pattern.String()); r.Groups() != api.MaxGroups || !slices.Equal(r.Names(), names) {
		t.Errorf("%d, %q", r.Groups(), r.Names())
	}
}

// TestLongestPattern: P16.1, P16.2: a pattern of as many bytes as there may be.
func TestLongestPattern(t *testing.T) {
	pattern := "[" + strings.Repeat("a", api.MaxPattern-2) + "]"
	r := made(t, pattern)
	if r.Pattern() != pattern {
		t.Errorf("its pattern has %d bytes", len(r.Pattern()))
	}
	wantFirst(t, r, []byte("ba"), []int{1, 2})
	wantFault(t, pattern+"a", api.ErrLong, -1)
}

// TestNumbersOfErrors: the numbers that the chapter names.
func TestNumbersOfErrors(t *testing.T) {
	if api.ErrArg != 1 || api.ErrLong != 2 || api.ErrBig != 3 || api.ErrRegexEngine != 160 {
		t.Errorf("%d %d %d %d", api.ErrArg, api.ErrLong, api.ErrBig, api.ErrRegexEngine)
	}
	if api.ErrSyntax != 40 || api.ErrSyntaxRune != 41 || api.ErrSyntaxRange != 42 || api.ErrSyntaxCount != 43 || api.ErrSyntaxName != 44 || api.ErrSyntaxNest != 45 || api.ErrSyntaxGroups != 46 {
		t.Errorf("those of syntax")
	}
}
