package farm_test

import (
	"runtime"
	"slices"
	"strings"
	"sync"
	"testing"
	"testing/synctest"
	"time"

	"heron/api"
	"heron/farm"
)

// rows are rows of jobs of each kind: none, fine ones, wrong ones, few and as many as there may be.
func rows() [][]api.Job {
	full, _ := numbered(api.MaxJobs)
	return [][]api.Job{nil, {jobA()}, {jobX()}, {jobX(), jobA(), jobB()}, full[:7], full, slices.Repeat([]api.Job{jobX()}, api.MaxJobs), with(full, 30, jobX())}
}

// ofFarm tells how many goroutines there are that package farm has begun.
func ofFarm() int {
	stacks := make([]byte, 1<<20)
	stacks = stacks[:runtime.Stack(stacks, true)]
	return strings.Count(string(stacks), "created by heron/farm.")
}

// TestEachGoroutineHasEnded: P19.2: when Run has answered, or refused, none of its goroutines is left. (One that has told that it is done may take a moment to go.)
func TestEachGoroutineHasEnded(t *testing.T) {
	for _, l := range rows() {
		for workers := -1; workers <= api.MaxWorkers+1; workers++ {
			farm.Run(l, workers)
			farm.Run(slices.Concat(l, make([]api.Job, api.MaxJobs+1)), workers)
			left := ofFarm()
			for deadline := time.Now().Add(10 * time.Second); left > 0 && time.Now().Before(deadline); left = ofFarm() {
				runtime.Gosched()
			}
			if left > 0 {
				t.Fatalf("%d jobs by %d workers: %d goroutines are left", len(l), workers, left)
			}
		}
	}
}

// TestNoneIsLeftWaiting: P19.2: in a bubble, which fails if a goroutine that was begun in it is left, waiting for what never comes.
func TestNoneIsLeftWaiting(t *testing.T) {
	synctest.Test(t, func(t *testing.T) {
		for _, l := range rows() {
			wantResults(t, l, everyNumber(), modelsOf(l))
			wantRefused(t, l, 0, api.ErrFarm)
		}
	})
}

// TestChangedAfterwards: P19.2, P19.3: what was handed in may be written into as soon as Run has answered: nobody reads it any more. (Told by go test -race, too.)
func TestChangedAfterwards(t *testing.T) {
	for range 20 {
		l, want := numbered(api.MaxJobs)
		for _, workers := range someNumbers() {
			handed := cloned(l)
			got := ran(t, handed, workers)
			for i := range handed {
				for k := range handed[i].Text {
					handed[i].Text[k] = 'x'
				}
				handed[i] = jobX()
			}
			if !same(got, want) {
				t.Fatalf("by %d workers: the answer has changed", workers)
			}
		}
	}
}

// mostSeen is the greatest number of goroutines of package farm that is seen at one time while it runs.
func mostSeen(t *testing.T, l []api.Job, workers int) int {
	t.Helper()
	answered := make(chan api.Errno)
	go func() {
		_, errno := farm.Run(l, workers)
		answered <- errno
	}()
	most := 0
	for {
		select {
		case errno := <-answered:
			if errno != api.OK {
				t.Errorf("%d workers: %d", workers, errno)
			}
			return most
		default:
			most = max(most, ofFarm())
			time.Sleep(time.Millisecond)
		}
	}
}

// TestSoManyAtOneTime: P19.1: there are as many workers at one time as were asked for, and never more. They have so much to do that all of them are seen at it, if not at the first try.
func TestSoManyAtOneTime(t *testing.T) {
	text := repeated(50000, "ab")
	l := slices.Repeat([]api.Job{{Pattern: `(?:(a)|(b))*`, Text: text, Many: 1}}, 2*api.MaxWorkers)
	for _, workers := range []int{1, 2, 7, api.MaxWorkers} {
		most := 0
		for try := 0; try < 20 && most < workers; try++ {
			most = max(most, mostSeen(t, l, workers))
		}
		if most != workers {
			t.Errorf("%d workers were seen; want %d", most, workers)
		}
	}
}

// TestRunsAtOneTime: P19.2, W2: many that run at one time, of the same jobs and of other ones, answer what each answers alone.
func TestRunsAtOneTime(t *testing.T) {
	all := rows()
	var want [][]api.Result
	for _, l := range all {
		want = append(want, modelsOf(l))
	}
	var group sync.WaitGroup
	for k := range 12 {
		group.Go(func() {
			for n := range 3 * len(all) {
				i := (n + k) % len(all)
				workers := 1 + (n*5+k)%api.MaxWorkers
				if got, errno := farm.Run(all[i], workers); errno != api.OK || !same(got, want[i]) {
					t.Errorf("the row %d by %d workers: %d", i, workers, errno)
				}
				if got, errno := farm.Run(all[i], 0); errno != api.ErrFarm || len(got) > 0 {
					t.Errorf("the row %d by none: %d", i, errno)
				}
			}
		})
	}
	group.Wait()
}

// TestOneProcessor: P19.2, W1: where goroutines run one at a time, it ends, and answers the same.
func TestOneProcessor(t *testing.T) {
	defer runtime.GOMAXPROCS(runtime.GOMAXPROCS(1))
	for _, l := range rows() {
		wantResults(t, l, everyNumber(), modelsOf(l))
	}
}
