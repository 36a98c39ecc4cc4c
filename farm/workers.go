package farm

import (
	"sync"

	"heron/api"
)

// task is a job, and its number in the row: workers take them as they come, so what is found must tell where it belongs.
type task struct {
	number int
	job    api.Job
}

// outcome is what came of the task of that number.
type outcome struct {
	number int
	result api.Result
}

// carryOut is what comes of jobs, in their order, by so many workers. There is room for all that these send: so none of them waits, and nothing is received till all have ended.
func carryOut(l []api.Job, workers int) []api.Result {
	tasks := queue(l)
	outcomes := make(chan outcome, len(l))
	var joined sync.WaitGroup
	joined.Add(workers)
	for range workers {
		go work(tasks, outcomes, &joined)
	}
	joined.Wait()
	close(outcomes)
	return inOrder(outcomes, len(l))
}

// queue is a channel of all jobs, closed already: whoever ranges over it ends when none is left.
func queue(l []api.Job) <-chan task {
	tasks := make(chan task, len(l))
	for number, job := range l {
		tasks <- task{number, job}
	}
	close(tasks)
	return tasks
}

// work carries out one task after another, till none is left.
func work(tasks <-chan task, outcomes chan<- outcome, joined *sync.WaitGroup) {
	defer joined.Done()
	for t := range tasks {
		outcomes <- outcome{t.number, resultOf(t.job)}
	}
}

// inOrder are the results of so many outcomes, in the order of the jobs, whichever came first.
func inOrder(outcomes <-chan outcome, count int) []api.Result {
	results := make([]api.Result, count)
	for o := range outcomes {
		results[o.number] = o.result
	}
	return results
}
