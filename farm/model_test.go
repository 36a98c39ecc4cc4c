package farm_test

import (
	"slices"
	"testing"
	"unicode/utf8"

	"heron/api"
	"heron/meaning"
	"heron/prog"
	"heron/regex"
	"heron/syntax"
)

// The chapter's words, slowly, in two ways: job by job by package regex, and by what the trees mean.

// modelOf is a job's result by P19.1.
func modelOf(job api.Job) api.Result {
	r, err := regex.Compile(job.Pattern)
	if err != nil {
		f, _ := api.Seen(err)
		return api.Result{Fault: f}
	}
	finds, errno := r.All(job.Text, job.Many)
	if errno != api.OK {
		return api.Result{Fault: api.Fault{Code: errno, At: -1}}
	}
	return api.Result{Finds: finds}
}

// modelsOf are those of jobs, one after another.
func modelsOf(l []api.Job) []api.Result {
	var all []api.Result
	for _, job := range l {
		all = append(all, modelOf(job))
	}
	return all
}

// cut are the runes of bytes, and the offsets of their places.
func cut(b []byte) ([]int, []int) {
	var text []int
	places := []int{0}
	for at := 0; at < len(b); {
		r, size := utf8.DecodeRune(b[at:])
		at += size
		text, places = append(text, int(r)), append(places, at)
	}
	return text, places
}

// offsetsOf are captures as offsets.
func offsetsOf(caps, places []int) []int {
	var l []int
	for _, place := range caps {
		if place >= 0 {
			place = places[place]
		}
		l = append(l, place)
	}
	return l
}

// findOf is a tree's find from a place on (chapter 6): its captures, or none; false: that is not told of it.
func findOf(tree api.Node, text []int, from int) ([]int, bool) {
	for at := from; at <= len(text); at++ {
		parses, errno := meaning.Parses(tree, text, at)
		if errno != api.OK {
			return nil, false
		}
		if len(parses) > 0 {
			return parses[0].Caps, true
		}
	}
	return nil, true
}

// modelOfTree is the result of a job by what its tree means; false: that is not told.
func modelOfTree(job api.Job) (api.Result, bool) {
	tree, err := syntax.Parse(job.Pattern)
	if err != nil {
		f, _ := api.Seen(err)
		return api.Result{Fault: f}, true
	}
	if _, errno := prog.Compile(tree); errno != api.OK {
		return refused(errno, -1), true
	}
	if len(job.Text) > api.MaxText {
		return refused(api.ErrLong, -1), true
	}
	text, places := cut(job.Text)
	var x api.Result
	last := -1
	for at := 0; at <= len(text) && (job.Many < 0 || len(x.Finds) < job.Many); {
		caps, is := findOf(tree, text, at)
		if !is {
			return x, false
		}
		if len(caps) == 0 {
			break
		}
		if caps[0] != caps[1] || caps[0] != last {
			x.Finds = append(x.Finds, offsetsOf(caps, places))
		}
		at, last = caps[1], caps[1]
		if caps[0] == caps[1] {
			at++
		}
	}
	return x, true
}

// wantModels fails, if jobs have other results than the models say, by some of those numbers of workers.
func wantModels(t testing.TB, l []api.Job, numbers []int) []api.Result {
	t.Helper()
	want := modelsOf(l)
	wantResults(t, l, numbers, want)
	for i, job := range l {
		if x, is := modelOfTree(job); is && !sameResult(x, want[i]) {
			t.Errorf("%s: %s; the tree means %s", shownJob(job), shown(want[i]), shown(x))
		}
	}
	return want
}

// TestModels: the models say of the chapter's examples what the chapter says.
func TestModels(t *testing.T) {
	want := []api.Result{found([]int{0, 2}, []int{4, 5}), found([]int{0, 2}), refused(api.ErrSyntax, 1)}
	for i, job := range []api.Job{jobA(), jobB(), jobX()} {
		if got := modelOf(job); !sameResult(got, want[i]) {
			t.Errorf("%s: %s; want %s", shownJob(job), shown(got), shown(want[i]))
		}
		if got, is := modelOfTree(job); !is || !sameResult(got, want[i]) {
			t.Errorf("%s: the tree means %s, %v; want %s", shownJob(job), shown(got), is, shown(want[i]))
		}
	}
}

// wantJoined fails, if two rows one behind the other do not answer what the one and the other do (P19.4).
func wantJoined(t testing.TB, l, m []api.Job, workers int) {
	t.Helper()
	got := ran(t, slices.Concat(l, m), workers)
	if want := slices.Concat(ran(t, l, workers), ran(t, m, workers)); !same(got, want) {
		t.Errorf("%d and %d jobs by %d workers: together they have other results", len(l), len(m), workers)
	}
}

// wantFirstOnes fails, if a job that asks for some finds does not have the first ones of all (P19.5); all jobs stand in one row.
func wantFirstOnes(t testing.TB, pattern string, text []byte, workers int) {
	t.Helper()
	l := []api.Job{{Pattern: pattern, Text: text, Many: -1}}
	for many := range api.MaxJobs - 1 {
		l = append(l, api.Job{Pattern: pattern, Text: text, Many: many})
	}
	got := ran(t, l, workers)
	for i, x := range got {
		want := api.Result{Fault: got[0].Fault, Finds: got[0].Finds[:min(uint(l[i].Many), uint(len(got[0].Finds)))]}
		if !sameResult(x, want) {
			t.Errorf("%s: %s; want %s", shownJob(l[i]), shown(x), shown(want))
		}
	}
}
