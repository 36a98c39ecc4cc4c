package farm

import (
	"heron/api"
	"heron/regex"
)

// resultOf is what comes of a job. Each job has a Regex of its own, so that none waits for another one, nor hangs on it.
func resultOf(job api.Job) api.Result {
	r, err := regex.Compile(job.Pattern)
	if err != nil {
		fault, _ := api.Seen(err)
		return api.Result{Fault: fault}
	}
	finds, errno := r.All(job.Text, job.Many)
	if errno != api.OK {
		return api.Result{Fault: api.Fault{Code: errno, At: -1}}
	}
	return api.Result{Finds: finds}
}
