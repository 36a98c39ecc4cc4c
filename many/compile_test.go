package many_test

import (
	"errors"
	"slices"
	"strings"
	"testing"
	"time"

	"heron/api"
	"heron/many"
	"heron/prog"
	"heron/regex"
)

// great is a pattern that is fine alone, but not with itself beside it: it has 10003 instructions.
const great = `(?:a{500}){20}`

// tooGreat is one whose program is too great by itself.
const tooGreat = `(?:a{1000}){1000}`

// wantFault fails, if Compile does not answer that fault and that number, and nothing beside them: it is told by api.Seen, its Errno by errors.Is, and no other one.
func wantFault(t testing.TB, l []string, which int, code api.Errno, at int) {
	t.Helper()
	before := slices.Clone(l)
	m, n, err := many.Compile(l)
	want := api.Fault{Code: code, At: at}
	if f, is := api.Seen(err); m != nil || err == nil || !is || f != want || n != which {
		t.Errorf("%s: %v, %d, %v; want %d, %v", shownSet(l), m != nil, n, err, which, want)
	}
	for other := range api.Errno(210) {
		if errors.Is(err, other) != (other == code) {
			t.Errorf("%s: that it is the error %d is told as %v", shownSet(l), other, other != code)
		}
	}
	if err != nil && !strings.Contains(err.Error(), want.Error()) {
		t.Errorf("%s: it tells itself as %q", shownSet(l), err.Error())
	}
	if !slices.Equal(before, l) {
		t.Errorf("%s: the list has changed", shownSet(before))
	}
}

// fault is a pattern that regex.Compile refuses, and how.
type fault struct {
	pattern string
	code    api.Errno
	at      int
}

// faults are such patterns, of each Code.
func faults() []fault {
	// Each second rune from 256 on, so many of them: as many ranges.
	var tooManyRanges strings.Builder
	for i := range api.MaxRanges + 1 {
		tooManyRanges.WriteRune(rune(0x100 + 2*i))
	}
	return []fault{
		{`b(`, api.ErrSyntax, 2}, {`[`, api.ErrSyntax, 1}, {`a)`, api.ErrSyntax, 1}, {`*`, api.ErrSyntax, 0}, {"a\xC3(", api.ErrSyntax, 2}, {"\xFF", api.ErrSyntax, 0}, {`a{3,2}(`, api.ErrSyntax, 7},
		{`ab\x{D800}`, api.ErrSyntaxRune, 2}, {`\x{110000}`, api.ErrSyntaxRune, 0},
		{`[b-a]`, api.ErrSyntaxRange, 1},
		{`a{1001}`, api.ErrSyntaxCount, 1}, {`ab{2,1}`, api.ErrSyntaxCount, 2},
		{`(?P<a>x)(?P<a>y)`, api.ErrSyntaxName, 8},
		{strings.Repeat(`(`, api.MaxNest+1) + strings.Repeat(`)`, api.MaxNest+1), api.ErrSyntaxNest, api.MaxNest},
		{strings.Repeat(`()`, api.MaxGroups+1), api.ErrSyntaxGroups, 2 * api.MaxGroups},
		{`ab[` + tooManyRanges.String() + `]`, api.ErrBig, 2},
		{tooGreat, api.ErrBig, -1}, {`(?:a{999}){20}a{18}`, api.ErrBig, -1},
		{strings.Repeat(`a`, api.MaxPattern+1), api.ErrLong, -1}, {strings.Repeat(`(`, api.MaxPattern+1), api.ErrLong, -1},
	}
}

// TestRefusedPatterns: P18.1, W8: each error of regex.Compile, with its place, of a pattern at the beginning, in the middle, at the end and alone; it is told as regex.Compile tells it.
func TestRefusedPatterns(t *testing.T) {
	fine := []string{`a`, `(b)`, ``, `\d`, `ab*`}
	for _, x := range faults() {
		wantFault(t, []string{x.pattern}, 0, x.code, x.at)
		for which := range fine {
			wantFault(t, with(fine, which, x.pattern), which, x.code, x.at)
		}
		full := slices.Repeat([]string{`a`}, api.MaxSet)
		wantFault(t, with(full, api.MaxSet-1, x.pattern), api.MaxSet-1, x.code, x.at)
		_, alone := regex.Compile(x.pattern)
		if _, _, err := many.Compile([]string{`a`, x.pattern}); err == nil || err.Error() != alone.Error() || !errors.Is(err, alone) {
			t.Errorf("%.40q: %v; want %v", x.pattern, err, alone)
		}
	}
}

// TestTwoWrong: P18.1: of several wrong patterns the first one is told, whatever is wrong with each: that one is too long, too.
func TestTwoWrong(t *testing.T) {
	wantFault(t, []string{`a`, `b(`, `[`}, 1, api.ErrSyntax, 2)
	wantFault(t, []string{`[`, `b(`, `a`}, 0, api.ErrSyntax, 1)
	all := faults()
	for i, x := range all {
		for k, y := range all {
			if i != k {
				wantFault(t, []string{x.pattern, y.pattern}, 0, x.code, x.at)
				wantFault(t, []string{``, x.pattern, `a`, y.pattern, `b`}, 1, x.code, x.at)
			}
		}
	}
}

// TestHowMany: P18.1: none, too many, and as many as there may be.
func TestHowMany(t *testing.T) {
	wantFault(t, nil, -1, api.ErrArg, -1)
	wantFault(t, []string{}, -1, api.ErrArg, -1)
	wantFault(t, []string{`(`}[:0], -1, api.ErrArg, -1)
	for _, count := range []int{api.MaxSet + 1, api.MaxSet + 2, 2 * api.MaxSet, 256, 100000} {
		wantFault(t, slices.Repeat([]string{`a`}, count), -1, api.ErrArg, -1)
	}
	for _, count := range []int{1, 2, 3, 50, api.MaxSet - 1, api.MaxSet} {
		m := made(t, slices.Repeat([]string{`a`}, count)...)
		all, errno := m.Matches([]byte("ba"))
		if len(all) != count || errno != api.OK {
			t.Errorf("%d: %v, %d", count, all, errno)
		}
	}
}

// TestTooManyAndWrong: P18.1: that there are too many comes ahead of a wrong pattern, wherever that stands, and of patterns too great together.
func TestTooManyAndWrong(t *testing.T) {
	full := slices.Repeat([]string{`a`}, api.MaxSet+1)
	for _, which := range []int{0, 1, api.MaxSet / 2, api.MaxSet - 1, api.MaxSet} {
		for _, x := range faults() {
			wantFault(t, with(full, which, x.pattern), -1, api.ErrArg, -1)
		}
	}
	wantFault(t, slices.Repeat([]string{great}, api.MaxSet+1), -1, api.ErrArg, -1)
	wantFault(t, slices.Repeat([]string{`(`}, api.MaxSet+1), -1, api.ErrArg, -1)
}

// TestGreatAndWrong: P18.1: a wrong pattern comes ahead of patterns that are too great together, wherever it stands; so does one that is too great by itself, which has its number.
func TestGreatAndWrong(t *testing.T) {
	three := []string{great, great, great}
	wantFault(t, three, -1, api.ErrBig, -1)
	for _, x := range faults() {
		for which := range 4 {
			wantFault(t, slices.Insert(slices.Clone(three), which, x.pattern), which, x.code, x.at)
		}
	}
	full := slices.Repeat([]string{great}, api.MaxSet)
	wantFault(t, full, -1, api.ErrBig, -1)
	wantFault(t, with(full, api.MaxSet-1, `a)`), api.MaxSet-1, api.ErrSyntax, 1)
}

// as is a pattern whose program has so many instructions: at least 3.
func as(t testing.TB, insts int) string {
	t.Helper()
	count := insts - 3
	pattern := strings.Repeat(`a{1000}`, count/1000)
	if rest := count % 1000; rest > 0 {
		pattern += strings.Repeat(`b`, rest%10) + strings.Repeat(`c{10}`, rest/10)
	}
	if p := programOf(t, pattern); len(p.Insts) != insts {
		t.Fatalf("%d instructions; want %d", len(p.Insts), insts)
	}
	return pattern
}

// TestTooGreat: P18.1: programs that are as long together as there may be are taken, one instruction or one pattern more is not: just as prog.Join has it.
func TestTooGreat(t *testing.T) {
	fills := func(counts ...int) []string {
		var l []string
		for _, count := range counts {
			l = append(l, as(t, count))
		}
		return l
	}
	hundred := slices.Repeat([]int{199}, 99)
	for _, x := range []struct {
		l    []string
		fits bool
	}{
		{fills(api.MaxInsts), true},
		// One OpAlt each, but of one pattern.
		{fills(10000, 9999), true}, {fills(10000, 10000), false}, {fills(9999, 10001), false}, {fills(3, api.MaxInsts-4), true}, {fills(api.MaxInsts-3, 3), false}, {fills(api.MaxInsts, 3), false}, {fills(3, api.MaxInsts), false},
		{fills(6666, 6666, 6666), true}, {fills(6666, 6667, 6666), false},
		{fills(append(hundred, 200)...), true}, {fills(append(hundred, 201)...), false}, {fills(append([]int{200}, hundred...)...), true}, {fills(append([]int{201}, hundred...)...), false},
		// Fine without the last one.
		{fills(9000, 9000, 1994), true}, {fills(9000, 9000, 1994, 3), true}, {fills(9000, 9000, 1995, 3), false}, {fills(9000, 9000, 1998), true}, {fills(9000, 9000, 1999), false}, {fills(9000, 9000, 1998, 3), false},
		{slices.Repeat([]string{great}, 1), true}, {slices.Repeat([]string{great}, 2), false}, {slices.Repeat([]string{great}, 3), false},
		// Nothing comes to 3, which is 303 and 99.
		{slices.Repeat([]string{``}, api.MaxSet), true},
	} {
		_, errno := prog.Join(programsOf(t, x.l))
		if (errno == api.OK) != x.fits {
			t.Fatalf("%s: Join has %d", shownSet(x.l), errno)
		}
		if x.fits {
			made(t, x.l...)
		} else {
			wantFault(t, x.l, -1, api.ErrBig, -1)
		}
	}
}

// TestGreatTakesLittle: P18.1, W1: of a hundred patterns that would take gigabytes, all fine alone, it is told soon that they are too great together.
func TestGreatTakesLittle(t *testing.T) {
	var runes strings.Builder
	for i := range api.MaxRanges {
		runes.WriteRune(rune(0x100 + 2*i))
	}
	pattern := `(?:[` + runes.String() + `]{999}){20}`
	began := time.Now()
	wantFault(t, slices.Repeat([]string{pattern}, api.MaxSet), -1, api.ErrBig, -1)
	wantFault(t, append(slices.Repeat([]string{pattern}, api.MaxSet-1), `(`), api.MaxSet-1, api.ErrSyntax, 1)
	if took := time.Since(began); took > 20*time.Second {
		t.Errorf("%v", took)
	}
}

// TestNumbersOfErrors: the numbers that the chapter names.
func TestNumbersOfErrors(t *testing.T) {
	if api.ErrArg != 1 || api.ErrLong != 2 || api.ErrBig != 3 {
		t.Errorf("%d %d %d", api.ErrArg, api.ErrLong, api.ErrBig)
	}
}
