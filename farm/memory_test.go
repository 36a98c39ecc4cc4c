package farm_test

import (
	"bytes"
	"runtime"
	"slices"
	"testing"
	"unsafe"
	"weak"

	"heron/api"
	"heron/farm"
)

// forMemory are jobs with groups and without, fine and wrong, short and long: not every engine is as good for each.
func forMemory() []api.Job {
	return []api.Job{
		jobOf(``, "ab", -1), jobOf(`a`, "", -1), jobOf(`(a)(b)?`, "ab-ab-a", -1), jobOf(`(a)(b)?`, "ab-ab-a", 2), jobOf(`(`, "ab", -1), jobOf(`\A(?:(a)|b)`, "ba", -1), jobOf(`x`, "ab", -1), jobOf(`é|\x{FFFD}`, "\xFFé-\xC3", -1),
		{Pattern: `a(b)?`, Text: repeated(300, "ab-a"), Many: -1}, {Pattern: `ab`, Text: repeated(2000, "ab-"), Many: 100}, {Pattern: `b*`, Text: repeated(500, "-ab"), Many: -1}, {Pattern: `(-)|z`, Text: repeated(3000, "ab"), Many: -1}, {Pattern: `ab`, Many: 0},
	}
}

// withRoom is a list with spare room, marked.
func withRoom[T any](l []T, mark T) []T {
	return append(slices.Clone(l), mark, mark, mark)[:len(l)]
}

// TestHandedIn: P19.3, W6: neither the row nor its spare room, nor a text, nor its spare room is changed; other things in the same memory are answered for themselves.
func TestHandedIn(t *testing.T) {
	mark := jobOf(`mark`, "mark", 7)
	for _, workers := range someNumbers() {
		plain := forMemory()
		for i := range plain {
			plain[i].Text = withRoom(plain[i].Text, 7)
		}
		handed := withRoom(plain, mark)
		want := modelsOf(forMemory())
		if got := ran(t, handed, workers); !same(got, want) {
			t.Errorf("by %d workers: other results", workers)
		}
		if !sameJobs(handed[:len(handed)+3], append(forMemory(), mark, mark, mark)) {
			t.Errorf("by %d workers: what was handed in has changed", workers)
		}
		for i := range handed {
			if room := handed[i].Text[len(handed[i].Text):][:3]; !bytes.Equal(room, []byte{7, 7, 7}) {
				t.Errorf("by %d workers: the spare room of the text %d has changed", workers, i)
			}
			for k := range handed[i].Text {
				handed[i].Text[k] = 'z'
			}
		}
		other := forMemory()
		for i := range other {
			other[i].Text = repeated(len(other[i].Text), "z")
		}
		wantResults(t, handed, []int{workers}, modelsOf(other))
	}
}

// TestRefusedHandedIn: P19.3, W3: what is refused is not changed either, nor its spare room.
func TestRefusedHandedIn(t *testing.T) {
	mark := jobOf(`mark`, "mark", 7)
	for _, l := range [][]api.Job{nil, forMemory(), slices.Repeat(forMemory(), 9)} {
		for _, workers := range []int{0, api.MaxWorkers + 1} {
			handed := withRoom(l, mark)
			if _, errno := farm.Run(handed, workers); errno == api.OK {
				t.Errorf("%d jobs by %d workers are not refused", len(l), workers)
			}
			if !sameJobs(handed[:len(handed)+3], append(slices.Clone(l), mark, mark, mark)) {
				t.Errorf("%d jobs by %d workers: what was handed in has changed", len(l), workers)
			}
		}
	}
}

// stretch is memory, from its first byte to behind its last one.
type stretch struct{ from, to uintptr }

// memoryOf is that of a list, spare room too.
func memoryOf[T any](l []T) []stretch {
	if cap(l) == 0 {
		return nil
	}
	var one T
	from := uintptr(unsafe.Pointer(unsafe.SliceData(l)))
	return []stretch{{from, from + uintptr(cap(l))*unsafe.Sizeof(one)}}
}

// memoryOfAll is that of all lists of results.
func memoryOfAll(l []api.Result) []stretch {
	all := memoryOf(l)
	for _, x := range l {
		all = append(all, memoryOf(x.Finds)...)
		for _, find := range x.Finds {
			all = append(all, memoryOf(find)...)
		}
	}
	return all
}

// memoryOfJobs is that of jobs and their texts.
func memoryOfJobs(l []api.Job) []stretch {
	all := memoryOf(l)
	for _, job := range l {
		all = append(all, memoryOf(job.Text)...)
	}
	return all
}

// apart tells whether no two stretches share memory.
func apart(l []stretch) bool {
	slices.SortFunc(l, func(a, b stretch) int {
		if a.from < b.from {
			return -1
		}
		return 1
	})
	for i := 1; i < len(l); i++ {
		if l[i].from < l[i-1].to {
			return false
		}
	}
	return true
}

// fill puts one thing into all of a list's memory, spare room too.
func fill[T any](l []T, one T) {
	all := l[:cap(l)]
	for i := range all {
		all[i] = one
	}
}

// TestListsAreApart: P19.3, W6: no two lists of an answer share memory, nor do they with another answer or with what was handed in, be it the same job twice.
func TestListsAreApart(t *testing.T) {
	l := slices.Concat(forMemory(), forMemory())
	for _, workers := range everyNumber() {
		first, second := ran(t, l, workers), ran(t, l, workers)
		if !apart(slices.Concat(memoryOfAll(first), memoryOfAll(second), memoryOfJobs(l))) {
			t.Errorf("by %d workers: memory is shared", workers)
		}
	}
}

// TestAnswersAreTheirOwners: P19.3, W6: writing into one list that is answered, or growing it, changes no other one, nor what is answered later, nor what was handed in.
func TestAnswersAreTheirOwners(t *testing.T) {
	l := slices.Concat(forMemory(), forMemory())
	before, want := cloned(l), modelsOf(l)
	for _, workers := range someNumbers() {
		spoilt, other := ran(t, l, workers), ran(t, l, workers)
		for i := range spoilt {
			for k := range spoilt[i].Finds {
				fill(spoilt[i].Finds[k], -9)
				_ = append(spoilt[i].Finds[k], 1, 2, 3)
				if !same(spoilt[i+1:], want[i+1:]) || !slices.EqualFunc(spoilt[i].Finds[k+1:], want[i].Finds[k+1:], slices.Equal[[]int]) {
					t.Fatalf("by %d workers: writing into the find %d of the job %d changes another one", workers, k, i)
				}
				if i >= 8 && k > 20 { // long rows: the first ones are enough
					break
				}
			}
			fill(spoilt[i].Finds, []int{5})
			_ = append(spoilt[i].Finds, []int{6})
		}
		fill(spoilt, refused(api.ErrArg, 9))
		_ = append(spoilt, refused(api.ErrArg, 9))
		if !same(other, want) || !same(ran(t, l, workers), want) || !sameJobs(l, before) {
			t.Errorf("by %d workers: what is done with one answer is seen elsewhere", workers)
		}
	}
}

// TestNothingKept: P19.3: neither the row, nor a text, nor what a pattern is a piece of is held on to by an answer, or by the package: that memory is given back.
func TestNothingKept(t *testing.T) {
	var bytesKept []weak.Pointer[byte]
	var rowsKept []weak.Pointer[api.Job]
	build := func() []api.Result {
		source, text, wrong := append([]byte(`([ab]*)c|(-)`), repeated(1000, "-")...), append(repeated(3000, "ab"), 'c'), append([]byte(`([ab]*`), repeated(1000, "-")...)
		l := []api.Job{
			{Pattern: unsafe.String(&source[0], 12), Text: text, Many: -1},
			{Pattern: unsafe.String(&wrong[0], 6), Text: text, Many: -1},
			{Pattern: `b`, Text: text[1:2], Many: -1},
		}
		bytesKept = append(bytesKept, weak.Make(&source[0]), weak.Make(&text[0]), weak.Make(&wrong[0]))
		rowsKept = append(rowsKept, weak.Make(&l[0]))
		farm.Run(l, 0)
		return ran(t, l, 3)
	}
	got := build()
	for range 3 {
		runtime.GC()
	}
	for i, w := range bytesKept {
		if w.Value() != nil {
			t.Errorf("the bytes %d are kept", i)
		}
	}
	for i, w := range rowsKept {
		if w.Value() != nil {
			t.Errorf("the row %d is kept", i)
		}
	}
	if !same(got, []api.Result{found([]int{0, 6001, 0, 6000, -1, -1}), refused(api.ErrSyntax, 6), found([]int{0, 1})}) {
		t.Errorf("%v", got)
	}
}

// TestAnswersAreGivenBack: P19.3: an answer is its owner's alone: what nobody holds any more is given back, each list by itself.
func TestAnswersAreGivenBack(t *testing.T) {
	var lists []weak.Pointer[int]
	var rest [][]int
	build := func() {
		for _, x := range ran(t, forMemory(), 4) {
			for _, find := range x.Finds {
				lists = append(lists, weak.Make(&find[0]))
			}
			if len(x.Finds) > 0 {
				rest = append(rest, slices.Clone(x.Finds[0]))
			}
		}
	}
	build()
	for range 3 {
		runtime.GC()
	}
	for i, w := range lists {
		if w.Value() != nil {
			t.Fatalf("the find %d of %d is kept", i, len(lists))
		}
	}
	runtime.KeepAlive(rest)
}

// held is how much memory is in use.
func held() uint64 {
	var m runtime.MemStats
	runtime.GC()
	runtime.GC()
	runtime.ReadMemStats(&m)
	return m.HeapAlloc
}

// TestLittleMemory: P19.3: what the jobs need is given back, though much was asked.
func TestLittleMemory(t *testing.T) {
	text := repeated(20000, "abbabaabb-")
	var l []api.Job
	for range api.MaxJobs {
		l = append(l, api.Job{Pattern: `(?:a|b)*a[ab]{9}-`, Text: text, Many: -1})
	}
	before := held()
	for range 3 {
		ran(t, l, api.MaxWorkers)
	}
	if after := held(); after > before+4<<20 {
		t.Errorf("%d bytes are held", after-before)
	}
	runtime.KeepAlive(text)
}
