package farm_test

import (
	"slices"
	"strings"
	"testing"
	"time"

	"heron/api"
)

// TestLengths: P19.1, W7: texts of MaxText bytes and one more: it is the bytes that are counted, not the runes.
func TestLengths(t *testing.T) {
	const long = api.MaxText
	var l []example
	for _, unit := range []string{"a", "é", "\xFF", "😀"} {
		b := repeated(long/len(unit)+1, unit)
		b[0] = '-'
		for _, many := range []int{-1, 0, 1} {
			l = append(l, example{api.Job{Pattern: `\A-`, Text: b[:long+1], Many: many}, refused(api.ErrLong, -1)})
		}
		l = append(l, example{api.Job{Pattern: `\A-`, Text: b[:long], Many: -1}, found([]int{0, 1})})
		l = append(l, example{api.Job{Pattern: `\z`, Text: b[:long], Many: 3}, found([]int{long, long})})
	}
	var jobs []api.Job
	var want []api.Result
	for _, x := range append(l, example{api.Job{Pattern: `a`, Text: make([]byte, 3*long), Many: -1}, refused(api.ErrLong, -1)}) {
		jobs, want = append(jobs, x.job), append(want, x.want)
	}
	wantResults(t, jobs, []int{1, api.MaxWorkers}, want)
}

// TestLongest: P19.1: MaxText bytes, in which something fits at the beginning, at the end, everywhere, and nowhere.
func TestLongest(t *testing.T) {
	const long = api.MaxText
	b := repeated(long, "-")
	copy(b, "ab")
	copy(b[long-4:], "éab")
	l := []api.Job{
		{Pattern: `(a)b`, Text: b, Many: -1}, {Pattern: `ab`, Text: b, Many: 1}, {Pattern: `éab\z`, Text: b, Many: -1}, {Pattern: `\A[^z]*`, Text: b, Many: -1}, {Pattern: `(-+)(?:x|y)`, Text: b, Many: -1}, {Pattern: `b-+(é)`, Text: b, Many: -1},
		{Pattern: `-{512}-{512}`, Text: b, Many: -1}, {Pattern: `-`, Text: b, Many: 5},
	}
	var blocks [][]int
	for at := 2; at+1024 <= long-4; at += 1024 {
		blocks = append(blocks, []int{at, at + 1024})
	}
	wantResults(t, l, []int{1, 3, api.MaxWorkers}, []api.Result{
		found([]int{0, 2, 0, 1}, []int{long - 2, long, long - 2, long - 1}), found([]int{0, 2}), found([]int{long - 4, long}), found([]int{0, long}), found(), found([]int{1, long - 2, long - 4, long - 2}),
		found(blocks...), found([]int{2, 3}, []int{3, 4}, []int{4, 5}, []int{5, 6}, []int{6, 7}),
	})
}

// TestManyFinds: P19.1, P19.3: a job that finds something at a million places stands beside others.
func TestManyFinds(t *testing.T) {
	const count = 1 << 20
	text := repeated(count/2, "ab")
	l := []api.Job{jobA(), {Pattern: `a|b`, Text: text, Many: -1}, {Pattern: `a|b`, Text: text, Many: 7}, jobX()}
	for _, workers := range []int{1, 4} {
		got := ran(t, l, workers)
		if len(got[1].Finds) != count {
			t.Fatalf("by %d workers: %d finds", workers, len(got[1].Finds))
		}
		for i, find := range got[1].Finds {
			if !slices.Equal(find, []int{i, i + 1}) {
				t.Fatalf("by %d workers: the find %d is %v", workers, i, find)
			}
		}
		if !slices.EqualFunc(got[2].Finds, got[1].Finds[:7], slices.Equal[[]int]) || len(got[0].Finds) != 2 || got[3].Fault.Code != api.ErrSyntax {
			t.Errorf("by %d workers: the others have other results", workers)
		}
	}
}

// TestManySteps: P19.1, T4, W1: as many jobs as there may be, whose ways through their texts are without number, take no more than seconds.
func TestManySteps(t *testing.T) {
	patterns := []string{`(a*)*b`, `(?:a|a)*b`, `(a|aa)+\z-`, `(?:a?){30}a{30}b`, `(?:(?:a*)*)*$b`, `((a+)+)+c`, `(?:a*a*a*a*)*b`, `(?:a|b)*a[ab]{12}c`}
	text := repeated(200000, "a")
	var l []api.Job
	for i := range api.MaxJobs {
		l = append(l, api.Job{Pattern: patterns[i%len(patterns)], Text: text[:len(text)-i], Many: -1})
	}
	began := time.Now()
	wantResults(t, l, []int{1, api.MaxWorkers}, make([]api.Result, api.MaxJobs))
	if took := time.Since(began); took > 100*time.Second {
		t.Errorf("%v", took)
	}
}

// TestGreatest: P19.1: patterns as great as there may be: as many bytes, groups, instructions, groups within one another.
func TestGreatest(t *testing.T) {
	want := []int{1, 2}
	for range api.MaxGroups {
		want = append(want, 1, 1)
	}
	deep := strings.Repeat(`(`, api.MaxNest) + `a` + strings.Repeat(`)`, api.MaxNest)
	wantExamples(t, []example{
		{jobOf("["+strings.Repeat("a", api.MaxPattern-2)+"]", "ba", -1), found([]int{1, 2})},
		{jobOf(strings.Repeat(`()`, api.MaxGroups)+`a`, "-a", -1), found(want)},
		{jobOf(deep, "-a", -1), found(slices.Repeat([]int{1, 2}, api.MaxNest+1))},
		{jobOf(`(?:a{999}){20}a{17}`, strings.Repeat("a", 19997), -1), found([]int{0, 19997})},
		{jobOf(`(?:a{999}){20}a{17}`, strings.Repeat("a", 19996), -1), found()},
		{jobOf(`(?:a{999}){20}a{18}`, strings.Repeat("a", 19998), -1), refused(api.ErrBig, -1)},
	})
}
