package farm_test

import (
	"fmt"
	"slices"
	"strings"
	"testing"

	"heron/api"
	"heron/farm"
)

// jobOf is a job.
func jobOf(pattern, text string, many int) api.Job {
	return api.Job{Pattern: pattern, Text: []byte(text), Many: many}
}

// found is the result of a job that is fine, by its finds.
func found(finds ...[]int) api.Result { return api.Result{Finds: finds} }

// refused is the result of one that is not.
func refused(code api.Errno, at int) api.Result {
	return api.Result{Fault: api.Fault{Code: code, At: at}}
}

// sameResult tells whether two results are the same; a nil list is as an empty one.
func sameResult(x, y api.Result) bool {
	return x.Fault == y.Fault && slices.EqualFunc(x.Finds, y.Finds, slices.Equal[[]int])
}

// same tells whether two rows of results are.
func same(l, m []api.Result) bool { return slices.EqualFunc(l, m, sameResult) }

// shownJob is a job as it is told by a failing test.
func shownJob(job api.Job) string {
	return fmt.Sprintf("%.40q in %.40q (%d), %d", job.Pattern, job.Text, len(job.Text), job.Many)
}

// shown is a result likewise.
func shown(x api.Result) string {
	return fmt.Sprintf("%v, %v (%d)", x.Fault, x.Finds[:min(len(x.Finds), 6)], len(x.Finds))
}

// everyNumber are all the numbers of workers that there may be.
func everyNumber() []int {
	var l []int
	for workers := 1; workers <= api.MaxWorkers; workers++ {
		l = append(l, workers)
	}
	return l
}

// someNumbers are some of them: the least one, the greatest one, and some between.
func someNumbers() []int { return []int{1, 2, 5, api.MaxWorkers} }

// ran is what Run answers of a row that is not to be refused.
func ran(t testing.TB, l []api.Job, workers int) []api.Result {
	t.Helper()
	results, errno := farm.Run(l, workers)
	if errno != api.OK || len(results) != len(l) {
		t.Fatalf("%d jobs by %d workers: %d results, %d", len(l), workers, len(results), errno)
	}
	return results
}

// wantResults fails, if the jobs have other results by some of those numbers of workers, or change.
func wantResults(t testing.TB, l []api.Job, numbers []int, want []api.Result) {
	t.Helper()
	before := cloned(l)
	for _, workers := range numbers {
		for i, got := range ran(t, l, workers) {
			if !sameResult(got, want[i]) {
				t.Errorf("by %d workers, the job %d of %d, %s: %s; want %s", workers, i, len(l), shownJob(l[i]), shown(got), shown(want[i]))
			}
		}
	}
	if !sameJobs(l, before) {
		t.Errorf("the jobs have changed")
	}
}

// wantRefused fails, if Run does not answer that error, or anything beside it.
func wantRefused(t testing.TB, l []api.Job, workers int, want api.Errno) {
	t.Helper()
	before := cloned(l)
	if results, errno := farm.Run(l, workers); errno != want || len(results) != 0 {
		t.Errorf("%d jobs by %d workers: %d results, %d; want %d", len(l), workers, len(results), errno, want)
	}
	if !sameJobs(l, before) {
		t.Errorf("%d jobs by %d workers: they have changed", len(l), workers)
	}
}

// cloned are the same jobs, in other memory.
func cloned(l []api.Job) []api.Job {
	var other []api.Job
	for _, job := range l {
		job.Text = slices.Clone(job.Text)
		other = append(other, job)
	}
	return other
}

// sameJobs tells whether two rows of jobs are the same.
func sameJobs(l, m []api.Job) bool {
	return slices.EqualFunc(l, m, func(x, y api.Job) bool {
		return x.Pattern == y.Pattern && x.Many == y.Many && slices.Equal(x.Text, y.Text)
	})
}

// with is a row with another job in one place of it.
func with(l []api.Job, at int, job api.Job) []api.Job {
	l = slices.Clone(l)
	l[at] = job
	return l
}

// repeated are so many of a string, as bytes.
func repeated(count int, s string) []byte { return []byte(strings.Repeat(s, count)) }
