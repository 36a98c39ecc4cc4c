package farm_test

import (
	"math"
	"slices"
	"strconv"
	"strings"
	"testing"

	"heron/api"
)

// The chapter's jobs, A, B and X.
func jobA() api.Job { return jobOf(`a+`, "aab a", -1) }
func jobB() api.Job { return jobOf(`a+`, "aab a", 1) }
func jobX() api.Job { return jobOf(`(`, "", 0) }

// example is a job and its result.
type example struct {
	job  api.Job
	want api.Result
}

// wantExamples fails, if the jobs of examples have other results, all in one row and each alone.
func wantExamples(t *testing.T, l []example) {
	t.Helper()
	var jobs []api.Job
	var want []api.Result
	for _, x := range l {
		wantResults(t, []api.Job{x.job}, someNumbers(), []api.Result{x.want})
		jobs, want = append(jobs, x.job), append(want, x.want)
	}
	wantResults(t, jobs, everyNumber(), want)
}

// TestExamples: P19.1: the chapter's examples.
func TestExamples(t *testing.T) {
	ofA, ofB := found([]int{0, 2}, []int{4, 5}), found([]int{0, 2})
	wantResults(t, []api.Job{jobA(), jobB()}, []int{2}, []api.Result{ofA, ofB})
	wantResults(t, []api.Job{jobX(), jobA()}, []int{1}, []api.Result{refused(api.ErrSyntax, 1), ofA})
	wantResults(t, nil, []int{16}, nil)
	wantRefused(t, []api.Job{jobA()}, 0, api.ErrFarm)
	wantRefused(t, []api.Job{jobA()}, 17, api.ErrFarm)
	wantRefused(t, make([]api.Job, 65), 0, api.ErrLong)
}

// numbered are so many jobs, each of which finds something at another place, and how many of them there are to be told.
func numbered(count int) ([]api.Job, []api.Result) {
	var l []api.Job
	var want []api.Result
	for i := range count {
		l = append(l, jobOf(`x(y)?`, strings.Repeat("-", i)+"xy-x", 1+i%3))
		finds := [][]int{{i, i + 2, i + 1, i + 2}, {i + 3, i + 4, -1, -1}}
		want = append(want, found(finds[:min(1+i%3, 2)]...))
	}
	return l, want
}

// TestHowManyJobs: P19.1, P19.2: none, one, some, as many as there may be, by every number of workers: more than jobs, as many, and fewer.
func TestHowManyJobs(t *testing.T) {
	for _, count := range []int{0, 1, 2, 3, 15, 16, 17, 32, 33, api.MaxJobs - 1, api.MaxJobs} {
		l, want := numbered(count)
		wantResults(t, l, everyNumber(), want)
	}
	for _, none := range [][]api.Job{nil, {}, []api.Job{jobX()}[:0], make([]api.Job, 0, api.MaxJobs+1)} {
		wantResults(t, none, everyNumber(), nil)
	}
}

// TestTooManyJobs: P19.1, W3: one more than there may be, and many more: nothing is answered beside the error.
func TestTooManyJobs(t *testing.T) {
	for _, count := range []int{api.MaxJobs + 1, api.MaxJobs + 2, 2 * api.MaxJobs, 256, 100000} {
		for _, workers := range someNumbers() {
			wantRefused(t, slices.Repeat([]api.Job{jobA()}, count), workers, api.ErrLong)
			wantRefused(t, slices.Repeat([]api.Job{jobX()}, count), workers, api.ErrLong)
		}
	}
}

// wrongNumbers are numbers of workers that may not be.
func wrongNumbers() []int {
	return []int{0, -1, -2, -16, math.MinInt, api.MaxWorkers + 1, api.MaxWorkers + 2, 2 * api.MaxWorkers, 256, 257, 1 << 16, 1<<16 + 1, math.MaxInt32, math.MaxInt}
}

// TestHowManyWorkers: P19.1, W3: numbers of workers that may not be: of none, of one job, of wrong ones, of as many as there may be.
func TestHowManyWorkers(t *testing.T) {
	full, _ := numbered(api.MaxJobs)
	for _, workers := range wrongNumbers() {
		for _, l := range [][]api.Job{nil, {}, {jobA()}, {jobX()}, {jobA(), jobX(), jobB()}, full, slices.Repeat([]api.Job{jobX()}, api.MaxJobs)} {
			wantRefused(t, l, workers, api.ErrFarm)
		}
	}
	for _, workers := range everyNumber() {
		wantResults(t, []api.Job{jobB()}, []int{workers}, []api.Result{found([]int{0, 2})})
	}
}

// TestBothErrors: P19.1, W4: too many jobs come ahead of a wrong number of workers.
func TestBothErrors(t *testing.T) {
	for _, workers := range wrongNumbers() {
		for _, count := range []int{api.MaxJobs + 1, 1000} {
			wantRefused(t, slices.Repeat([]api.Job{jobB()}, count), workers, api.ErrLong)
		}
		wantRefused(t, slices.Repeat([]api.Job{jobB()}, api.MaxJobs), workers, api.ErrFarm)
	}
}

// TestMany: P19.1, P19.5: how many are asked for: fewer than none, which is all, none, one, as many as there are, one more, and far more.
func TestMany(t *testing.T) {
	all := [][]int{{0, 1}, {2, 3}, {4, 5}, {6, 7}}
	var l []example
	for _, many := range []int{-1, -2, math.MinInt32, math.MinInt, 4, 5, 100, math.MaxInt32, math.MaxInt} {
		l = append(l, example{jobOf(`a`, "a-a-a-a", many), found(all...)})
	}
	for many := range 4 {
		l = append(l, example{jobOf(`a`, "a-a-a-a", many), found(all[:many]...)})
	}
	// The zero job is of the pattern of nothing, in nothing, and asks for none.
	wantExamples(t, append(l, example{api.Job{}, found()}, example{api.Job{Many: -1}, found([]int{0, 0})}, example{api.Job{Many: 1}, found([]int{0, 0})}, example{api.Job{Pattern: `a`}, found()}))
}

// TestNoneIsAskedFor: P19.1: a wrong pattern is told though no find is asked for.
func TestNoneIsAskedFor(t *testing.T) {
	wantExamples(t, []example{
		{jobOf(`(`, "a", 0), refused(api.ErrSyntax, 1)},
		{jobOf(`a{1001}`, "", 0), refused(api.ErrSyntaxCount, 1)},
		{jobOf(`a`, "a", 0), found()},
	})
}

// TestFinds: P19.1, T2, T3: patterns without a match, with empty ones, with groups that are not met; what the scan takes.
func TestFinds(t *testing.T) {
	wantExamples(t, []example{
		// Without a match.
		{jobOf(`b`, "aaa", -1), found()}, {jobOf(`[^\x{0}-\x{10FFFF}]`, "a", -1), found()}, {jobOf(`a\Ab`, "ab", 5), found()}, {jobOf(`\b`, "", -1), found()},
		// Empty ones.
		{jobOf(``, "ab", -1), found([]int{0, 0}, []int{1, 1}, []int{2, 2})}, {jobOf(``, "ab", 2), found([]int{0, 0}, []int{1, 1})},
		{jobOf(`a*`, "baaab", -1), found([]int{0, 0}, []int{1, 4}, []int{5, 5})}, {jobOf(`a*`, "baaab", 2), found([]int{0, 0}, []int{1, 4})},
		{jobOf(`^`, "a\nb", -1), found([]int{0, 0}, []int{2, 2})}, {jobOf(`\b`, "a b", -1), found([]int{0, 0}, []int{1, 1}, []int{2, 2}, []int{3, 3})},
		{jobOf(`\z`, "ab", -1), found([]int{2, 2})},
		// Groups.
		{jobOf(`(a)|(b)`, "ab", -1), found([]int{0, 1, 0, 1, -1, -1}, []int{1, 2, -1, -1, 1, 2})},
		{jobOf(`(a){0}b`, "bb", -1), found([]int{0, 1, -1, -1}, []int{1, 2, -1, -1})},
		{jobOf(`(?P<x>a)(?P<y>b)?`, "ab-a", -1), found([]int{0, 2, 0, 1, 1, 2}, []int{3, 4, 3, 4, -1, -1})},
		{jobOf(`(a|ab)(c|bcd)(d*)`, "abcd", -1), found([]int{0, 4, 0, 1, 1, 4, 4, 4})},
		{jobOf(`(|a)+`, "aa", -1), found([]int{0, 0, 0, 0}, []int{1, 1, 1, 1}, []int{2, 2, 2, 2})},
		{jobOf(`(?:(a??)(b??))+c`, "abc", -1), found([]int{0, 3, 0, 1, 1, 2})},
		// Rather the left one, rather seldom.
		{jobOf(`a|ab`, "ab", -1), found([]int{0, 1})}, {jobOf(`a+?`, "aa", -1), found([]int{0, 1}, []int{1, 2})},
	})
}

// TestTexts: P19.1: no bytes, bytes that are no UTF-8, runes of several bytes.
func TestTexts(t *testing.T) {
	wantExamples(t, []example{
		{api.Job{Pattern: `a?`, Text: nil, Many: -1}, found([]int{0, 0})},
		{api.Job{Pattern: `a?`, Text: []byte{}, Many: -1}, found([]int{0, 0})},
		{api.Job{Pattern: `a?`, Text: make([]byte, 0, 9), Many: -1}, found([]int{0, 0})},
		{api.Job{Pattern: `.`, Text: nil, Many: -1}, found()},
		{jobOf(`.`, "\xC3\xA9\xFF", -1), found([]int{0, 2}, []int{2, 3})},
		{jobOf(`\x{FFFD}`, "\xC3\xA9\xA9\xFFa\xE2\x82", -1), found([]int{2, 3}, []int{3, 4}, []int{5, 6}, []int{6, 7})},
		{jobOf(`(€|\x{10FFFF})+`, "\xE2\x82\xAC\xF4\x8F\xBF\xBF\xED\xA0\x80", -1), found([]int{0, 7, 3, 7})},
		{jobOf(``, "é€", -1), found([]int{0, 0}, []int{2, 2}, []int{5, 5})},
		{jobOf(`\x{0}`, "\x00a\x00", -1), found([]int{0, 1}, []int{2, 3})},
	})
}

// TestSameAgain: P19.1, P19.2: the same job twice and as often as there may be, the same pattern over other texts, the same text for other patterns.
func TestSameAgain(t *testing.T) {
	ofA, ofB := found([]int{0, 2}, []int{4, 5}), found([]int{0, 2})
	wantResults(t, []api.Job{jobA(), jobA()}, everyNumber(), []api.Result{ofA, ofA})
	wantResults(t, slices.Repeat([]api.Job{jobA()}, api.MaxJobs), everyNumber(), slices.Repeat([]api.Result{ofA}, api.MaxJobs))
	wantResults(t, slices.Repeat([]api.Job{jobA(), jobB()}, api.MaxJobs/2), everyNumber(), slices.Repeat([]api.Result{ofA, ofB}, api.MaxJobs/2))
	wantResults(t, slices.Repeat([]api.Job{jobX()}, api.MaxJobs), everyNumber(), slices.Repeat([]api.Result{refused(api.ErrSyntax, 1)}, api.MaxJobs))
	var texts, patterns []example
	text := []byte("-abab-ababab") // one memory, for all of them
	for i := range api.MaxJobs {
		texts = append(texts, example{jobOf(`(a)b`, strings.Repeat("-", i)+"ab", -1), found([]int{i, i + 2, i, i + 1})})
		count := strconv.Itoa(i % 5)
		want := [][][]int{{{0, 0}}, {{1, 3}}, {{1, 5}}, {{6, 12}}, nil}[i%5]
		patterns = append(patterns, example{api.Job{Pattern: `(?:ab){` + count + `}`, Text: text, Many: 1}, found(want...)})
	}
	wantExamples(t, texts)
	wantExamples(t, patterns)
}

// TestOrder: P19.1, P19.2: results stand in the order of the jobs, though those that come first take long and those that come last take little, and the other way about.
func TestOrder(t *testing.T) {
	long := repeated(40000, "ab")
	var l []api.Job
	var want []api.Result
	for i := range 24 {
		if i < 3 {
			l = append(l, api.Job{Pattern: `(?:a|b)*?(c)`, Text: append(long[:len(long)-i:len(long)-i], 'c'), Many: -1})
			end := len(long) - i
			want = append(want, found([]int{0, end + 1, end, end + 1}))
			continue
		}
		l = append(l, jobOf(`c`, strings.Repeat("-", i)+"c", -1))
		want = append(want, found([]int{i, i + 1}))
	}
	wantResults(t, l, everyNumber(), want)
	slices.Reverse(l)
	slices.Reverse(want)
	wantResults(t, l, everyNumber(), want)
}
