package farm_test

import (
	"math/rand"
	"regexp"
	"slices"
	"strings"
	"testing"

	"heron/api"
	"heron/farm"
)

// grower makes jobs by chance.
type grower struct{ *rand.Rand }

// text is one of at most so many pieces, some of them no runes, or pieces of one.
func (g grower) text(most int) []byte {
	var l []byte
	for range g.Intn(most + 1) {
		l = append(l, []string{"a", "b", "a", "b", "a", "b", "ab", "-", "\n", "é", "\xFF", "\xC3", "c", "\xA9"}[g.Intn(14)]...)
	}
	return l
}

// pattern is one of at most so deep.
func (g grower) pattern(deep int) string {
	if deep <= 1 {
		return []string{``, `a`, `b`, `a`, `b`, `[ab]`, `.`, `^`, `$`, `\b`, `\B`, `\A`, `\z`, `[^a]`, `é`, `\x{FFFD}`, `c`, `ab`}[g.Intn(18)]
	}
	switch g.Intn(6) {
	case 0, 1:
		return g.pattern(deep-1) + g.pattern(deep-1)
	case 2:
		return `(?:` + g.pattern(deep-1) + `|` + g.pattern(deep-1) + `)`
	case 3:
		return `(` + g.pattern(deep-1) + `)`
	}
	return `(?:` + g.pattern(deep-1) + `)` + []string{`*`, `+`, `?`, `*?`, `+?`, `??`, `{2}`, `{0,2}`, `{1,3}?`, `{2,}`, `{0}`}[g.Intn(11)]
}

// solid is a pattern that takes a rune at least, and no loop of which goes round nothing: what it finds, Go's own regular expressions find as well.
func (g grower) solid(deep int) string {
	if deep <= 1 {
		return []string{`a`, `b`, `c`, `-`, `[ab]`, `.`, `[^a]`, `é`, `\w`, `\W`, `\x{FFFD}`, `ab`, `ba`}[g.Intn(13)]
	}
	switch g.Intn(7) {
	case 0, 1, 2:
		return g.solid(deep-1) + g.solid(deep-1)
	case 3:
		return `(?:` + g.solid(deep-1) + `|` + g.solid(deep-1) + `)`
	case 4:
		return `(` + g.solid(deep-1) + `)`
	case 5:
		return []string{``, `^`, `\b`, `\B`, `a*`, `(b)?`}[g.Intn(6)] + g.solid(deep-1) + []string{``, `$`, `\b`, `\B`, `[ab]*?`, `(?:ab)??`}[g.Intn(6)]
	}
	return `(?:` + g.solid(deep-1) + `)` + []string{`+`, `+?`, `{2}`, `{1,3}`, `{1,2}?`, `{2,}`}[g.Intn(6)]
}

// broken is a pattern with another byte in it, by which most are wrong.
func (g grower) broken(pattern string) string {
	b := []byte(pattern + "a")
	b[g.Intn(len(b))] = "(){}[]*?\\|^-\xC3\xA9+"[g.Intn(15)]
	return string(b)
}

// many is how many finds are asked for.
func (g grower) many() int { return g.Intn(8) - 3 }

// row are at most so many jobs, some of them wrong, some the same as one ahead.
func (g grower) row(most int) []api.Job {
	var l []api.Job
	for range g.Intn(most + 1) {
		job := api.Job{Pattern: g.pattern(1 + g.Intn(5)), Text: g.text(12), Many: g.many()}
		switch g.Intn(8) {
		case 0, 1:
			job.Pattern = g.broken(job.Pattern)
		case 2:
			if len(l) > 0 {
				job = l[g.Intn(len(l))]
				job.Many = g.many()
			}
		}
		l = append(l, job)
	}
	return l
}

// TestMade: P19.1, P19.2, T9: rows made by chance, against the models, by some numbers of workers.
func TestMade(t *testing.T) {
	g := grower{rand.New(rand.NewSource(19))}
	wrong, nothing, several, all := 0, 0, 0, 0
	for range 250 {
		for _, x := range wantModels(t, g.row(24), []int{1, 1 + g.Intn(api.MaxWorkers), api.MaxWorkers}) {
			all++
			if x.Fault.Code != api.OK {
				wrong++
			} else if len(x.Finds) == 0 {
				nothing++
			} else if len(x.Finds) > 1 {
				several++
			}
		}
	}
	if wrong < all/20 || nothing < all/10 || several < all/10 {
		t.Errorf("of %d: wrong %d, of nothing %d, of several %d: too few", all, wrong, nothing, several)
	}
}

// TestEveryNumber: P19.2, T9: rows made by chance, of any length, answer the same by every number of workers, and when they are asked again.
func TestEveryNumber(t *testing.T) {
	g := grower{rand.New(rand.NewSource(192))}
	for n := range 40 {
		l := g.row(api.MaxJobs)
		if n%4 == 0 {
			for i := range l {
				l[i].Text = g.text(800)
			}
		}
		want := modelsOf(l)
		wantResults(t, l, everyNumber(), want)
		wantResults(t, l, everyNumber(), want)
	}
}

// TestOthersDoNotCount: P19.2: a job's result is the same alone, and wherever it stands among others.
func TestOthersDoNotCount(t *testing.T) {
	g := grower{rand.New(rand.NewSource(193))}
	for range 100 {
		l := g.row(20)
		want := modelsOf(l)
		for i, job := range l {
			wantResults(t, []api.Job{job}, []int{1 + g.Intn(api.MaxWorkers)}, want[i:i+1])
		}
		order := g.Perm(len(l))
		var other []api.Job
		var turned []api.Result
		for _, i := range order {
			other, turned = append(other, l[i]), append(turned, want[i])
		}
		wantResults(t, other, []int{1, 1 + g.Intn(api.MaxWorkers)}, turned)
	}
}

// TestTwoRows: P19.4: two rows one behind the other, with none, with one, with as many jobs as there may be together; with one more they are refused, though each is fine.
func TestTwoRows(t *testing.T) {
	g := grower{rand.New(rand.NewSource(194))}
	for range 100 {
		wantJoined(t, g.row(api.MaxJobs/2), g.row(api.MaxJobs/2), 1+g.Intn(api.MaxWorkers))
	}
	full := slices.Repeat([]api.Job{jobA(), jobX(), jobB(), jobOf(`(a)|b`, "ab", -1)}, api.MaxJobs/4)
	for count := range api.MaxJobs + 1 {
		wantJoined(t, full[:count], full[count:], 1+count%api.MaxWorkers)
		wantRefused(t, slices.Concat(full[:count], full[count:], full[:1]), 1+count%api.MaxWorkers, api.ErrLong)
	}
}

// TestFirstOnes: P19.5: those that ask for fewer have the first ones.
func TestFirstOnes(t *testing.T) {
	g := grower{rand.New(rand.NewSource(195))}
	for range 150 {
		wantFirstOnes(t, g.pattern(1+g.Intn(5)), g.text(60), 1+g.Intn(api.MaxWorkers))
	}
	wantFirstOnes(t, `a(b)?`, repeated(40, "aab-"), 4)
	wantFirstOnes(t, `(`, nil, 4)
	wantFirstOnes(t, ``, repeated(100, "é\xFF"), 4)
}

// TestAsOthers: P19.1, T3: where both mean the same, what is found is what Go's own regular expressions find.
func TestAsOthers(t *testing.T) {
	g := grower{rand.New(rand.NewSource(197))}
	finds := 0
	for n := range 40 {
		var l []api.Job
		var want []api.Result
		for range api.MaxJobs {
			job := api.Job{Pattern: g.solid(1 + g.Intn(5)), Text: g.text(12 + 300*(n%2)), Many: g.many()}
			other := regexp.MustCompile(`(?m:` + job.Pattern + `)`)
			l = append(l, job)
			want = append(want, found(other.FindAllSubmatchIndex(job.Text, job.Many)...))
			finds += len(want[len(want)-1].Finds)
		}
		wantResults(t, l, []int{1 + g.Intn(api.MaxWorkers)}, want)
	}
	if finds < 2000 {
		t.Errorf("%d finds: too few", finds)
	}
}

// rowOf are the jobs whose patterns and texts stand in lines, by turns.
func rowOf(lines string, many int) []api.Job {
	var l []api.Job
	for i, line := range strings.Split(lines, "\n") {
		if i%2 == 0 {
			l = append(l, api.Job{Pattern: line, Many: many - i/2})
		} else {
			l[len(l)-1].Text = []byte(line)
		}
	}
	return l
}

// FuzzRun holds ever more rows of jobs, by any number of workers, against the models, against the row's two halves, and against the same row by other workers.
func FuzzRun(f *testing.F) {
	f.Add("a+\naab a\na+\naab a\n(", -1, 2)
	f.Add("(a|b)*?c\n-ab\xFFc\n[b-a]\n\n\\b\na b", 3, 1)
	f.Add("", 0, 16)
	f.Add("a", 1, 0)
	f.Fuzz(func(t *testing.T, lines string, many, workers int) {
		if len(lines) > 300 {
			return
		}
		l := rowOf(lines, many)
		if len(l) > api.MaxJobs {
			wantRefused(t, l, workers, api.ErrLong)
			return
		}
		if workers < 1 || workers > api.MaxWorkers {
			wantRefused(t, l, workers, api.ErrFarm)
			return
		}
		want := wantModels(t, l, []int{workers, 1 + workers%api.MaxWorkers})
		half := len(l) / 2
		wantJoined(t, l[:half], l[half:], workers)
		if results, errno := farm.Run(l[:half], workers); errno != api.OK || !same(results, want[:half]) {
			t.Errorf("%q: the first half: %d, %d", lines, len(results), errno)
		}
	})
}
