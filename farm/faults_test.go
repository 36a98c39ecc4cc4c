package farm_test

import (
	"slices"
	"strings"
	"testing"

	"heron/api"
	"heron/regex"
)

// tooGreat is a pattern whose program is too great.
const tooGreat = `(?:a{1000}){1000}`

// wrongPatterns are patterns that regex.Compile refuses, of each Code, and their results.
func wrongPatterns() []example {
	// Each second rune from 256 on, so many of them: as many ranges.
	var tooManyRanges strings.Builder
	for i := range api.MaxRanges + 1 {
		tooManyRanges.WriteRune(rune(0x100 + 2*i))
	}
	var l []example
	for _, x := range []struct {
		pattern string
		code    api.Errno
		at      int
	}{
		{`b(`, api.ErrSyntax, 2}, {`[`, api.ErrSyntax, 1}, {`a)`, api.ErrSyntax, 1}, {`*`, api.ErrSyntax, 0}, {"a\xC3(", api.ErrSyntax, 2}, {"\xFF", api.ErrSyntax, 0}, {`a{3,2}(`, api.ErrSyntax, 7},
		{`ab\x{D800}`, api.ErrSyntaxRune, 2}, {`\x{110000}`, api.ErrSyntaxRune, 0},
		{`[b-a]`, api.ErrSyntaxRange, 1},
		{`a{1001}`, api.ErrSyntaxCount, 1}, {`ab{2,1}`, api.ErrSyntaxCount, 2},
		{`(?P<a>x)(?P<a>y)`, api.ErrSyntaxName, 8},
		{strings.Repeat(`(`, api.MaxNest+1) + strings.Repeat(`)`, api.MaxNest+1), api.ErrSyntaxNest, api.MaxNest},
		{strings.Repeat(`()`, api.MaxGroups+1), api.ErrSyntaxGroups, 2 * api.MaxGroups},
		{`ab[` + tooManyRanges.String() + `]`, api.ErrBig, 2},
		{tooGreat, api.ErrBig, -1}, {`(?:a{999}){20}a{18}`, api.ErrBig, -1},
		{strings.Repeat(`a`, api.MaxPattern+1), api.ErrLong, -1}, {strings.Repeat(`(`, api.MaxPattern+1), api.ErrLong, -1},
	} {
		l = append(l, example{jobOf(x.pattern, "ab", -1), refused(x.code, x.at)})
	}
	return l
}

// tooLong are bytes that All refuses.
func tooLong() []byte { return make([]byte, api.MaxText+1) }

// TestWrongPatterns: P19.1: each error of regex.Compile, with its place, and no Finds, just as regex.Compile tells it.
func TestWrongPatterns(t *testing.T) {
	for _, x := range wrongPatterns() {
		_, err := regex.Compile(x.job.Pattern)
		if f, is := api.Seen(err); !is || err == nil || f != x.want.Fault {
			t.Fatalf("%s: %v; want %v", shownJob(x.job), err, x.want.Fault)
		}
	}
	wantExamples(t, wrongPatterns())
}

// TestTooLongTexts: P19.1, W7: All's error, with the place -1 and no Finds, however many are asked for and whatever the pattern is; a wrong pattern comes ahead of it.
func TestTooLongTexts(t *testing.T) {
	b := tooLong()
	var l []example
	for _, pattern := range []string{``, `a`, `\x{0}`, `\A(a)`, `\z`, `(a|b)*?c`} {
		for _, many := range []int{-1, 0, 1, 7} {
			l = append(l, example{api.Job{Pattern: pattern, Text: b, Many: many}, refused(api.ErrLong, -1)})
		}
	}
	for _, x := range wrongPatterns() {
		x.job.Text = b
		l = append(l, x)
	}
	wantExamples(t, l)
}

// TestWhereWrong: P19.1, P19.2: wrong jobs at the beginning, in the middle, at the end, at each place, and everywhere: the others have their own results.
func TestWhereWrong(t *testing.T) {
	b := tooLong()
	wrong := []example{
		{jobX(), refused(api.ErrSyntax, 1)}, {jobOf(`ab[b-a]`, "ab", 1), refused(api.ErrSyntaxRange, 3)},
		{jobOf(tooGreat, "a", -1), refused(api.ErrBig, -1)}, {api.Job{Pattern: `a`, Text: b, Many: 1}, refused(api.ErrLong, -1)},
	}
	for _, count := range []int{1, 2, 5, 20} {
		fine, want := numbered(count)
		for _, x := range wrong {
			for at := range fine {
				wantResults(t, with(fine, at, x.job), someNumbers(), slices.Replace(slices.Clone(want), at, at+1, x.want))
			}
			wantResults(t, slices.Repeat([]api.Job{x.job}, count), someNumbers(), slices.Repeat([]api.Result{x.want}, count))
		}
	}
	// As many as there may be: each second one, and all of them.
	fine, want := numbered(api.MaxJobs)
	all, told := slices.Clone(fine), slices.Clone(want)
	for at := range all {
		x := wrong[at%len(wrong)]
		all[at], told[at] = x.job, x.want
		if at%2 == 0 {
			fine[at], want[at] = x.job, x.want
		}
	}
	wantResults(t, fine, everyNumber(), want)
	wantResults(t, all, everyNumber(), told)
}

// TestWrongAgain: W2: a row with wrong jobs leaves nothing behind: what is asked afterwards has its own answer.
func TestWrongAgain(t *testing.T) {
	for range 5 {
		wantRefused(t, []api.Job{jobA()}, 0, api.ErrFarm)
		wantResults(t, []api.Job{jobX(), jobA()}, everyNumber(), []api.Result{refused(api.ErrSyntax, 1), found([]int{0, 2}, []int{4, 5})})
		wantRefused(t, slices.Repeat([]api.Job{jobX()}, api.MaxJobs+1), 3, api.ErrLong)
		wantResults(t, []api.Job{jobB()}, everyNumber(), []api.Result{found([]int{0, 2})})
	}
}
