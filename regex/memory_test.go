package regex_test

import (
	"bytes"
	"runtime"
	"slices"
	"strings"
	"sync"
	"testing"
	"unsafe"
	"weak"

	"heron/api"
	"heron/regex"
)

// forMemory are patterns with groups and without, anchored and not, with and without runes that lead.
func forMemory() []string {
	return []string{``, `a`, `a*`, `(a)(b)?`, `\A(?:(a)|b)`, `(?P<x>a)|(?P<y>-)`, `\bab`, `\A[ab]*(c)?`, `ab`, `(a)b`, `ab*|x`, `z`}
}

// textsForMemory are bytes short and long: not every engine is as good for both.
func textsForMemory() [][]byte {
	return [][]byte{nil, []byte("a"), []byte("ab-ab"), []byte("\xFFéa"), many(5000, "ab-"), many(4000, "-")}
}

// withRoom are bytes with spare room, marked.
func withRoom(b []byte) []byte { return append(bytes.Clone(b), 7, 8, 9)[:len(b)] }

// isMarked tells whether the spare room that withRoom made is as it was.
func isMarked(b []byte) bool { return string(b[:len(b)+3][len(b):]) == "\x07\x08\x09" }

// askAll asks a Regex all that can be asked of bytes.
func askAll(r *regex.Regex, b []byte) {
	r.Match(b)
	r.Find(b)
	r.Submatch(b)
	r.All(b, -1)
	r.All(b, 2)
}

// TestBytesHandedIn: P16.6, W6: the bytes that are handed in are neither changed, nor their spare room, nor kept: other ones in the same memory are answered for themselves, and what was answered stays.
func TestBytesHandedIn(t *testing.T) {
	for _, pattern := range forMemory() {
		for _, r := range byEach(t, made(t, pattern)) {
			for _, b := range textsForMemory() {
				handed := withRoom(b)
				want, errno := r.All(bytes.Clone(b), -1)
				all, errno2 := r.All(handed, -1)
				caps, _ := r.Submatch(handed)
				two, _ := r.Find(handed)
				r.Match(handed)
				if !bytes.Equal(handed, b) || !isMarked(handed) {
					t.Errorf("%q: what was handed in has changed", pattern)
				}
				for i := range handed {
					handed[i] = 'z'
				}
				if errno != errno2 || !sameAll(all, want) || !slices.Equal(caps, headOf(want)) || !slices.Equal(two, caps[:min(2, len(caps))]) {
					t.Errorf("%q in %s: %s, %v, %v; want %s", pattern, shown(b), shownAll(all), caps, two, shownAll(want))
				}
				if other, _ := r.All(handed, -1); !sameAll(other, allOf(t, r, many(len(b), "z"))) {
					t.Errorf("%q: other bytes in the same memory: %s", pattern, shownAll(other))
				}
			}
		}
	}
	long := append(make([]byte, api.MaxText+1), 7, 8, 9)[:api.MaxText+1]
	askAll(made(t, `a`), long)
	if !isMarked(long) || bytes.Count(long, []byte{0}) != len(long) {
		t.Errorf("what was refused has changed")
	}
}

// allOf is what a new Regex of the same pattern tells.
func allOf(t testing.TB, r *regex.Regex, b []byte) [][]int {
	t.Helper()
	all, errno := made(t, r.Pattern()).All(b, -1)
	if errno != api.OK {
		t.Fatalf("%q: %d", r.Pattern(), errno)
	}
	return all
}

// TestPatternHandedIn: P16.6, W6: the pattern's memory is not kept: whatever stands there afterwards, the Regex is what it was.
func TestPatternHandedIn(t *testing.T) {
	for _, pattern := range []string{`(?P<one>a)(?P<two>b)?`, `\Aab(?P<x>c)`, `abc`, ``} {
		memory := append([]byte(pattern), '-')
		r := made(t, unsafe.String(&memory[0], len(pattern)))
		names := r.Names()
		for i := range memory {
			memory[i] = '*'
		}
		own := made(t, pattern)
		if r.Pattern() != pattern || !slices.Equal(names, own.Names()) || !slices.Equal(r.Names(), own.Names()) {
			t.Errorf("%q: %q, %q", pattern, r.Pattern(), r.Names())
		}
		want := mustModel(t, pattern, "abcab")
		for _, q := range byEach(t, r) {
			wantFirst(t, q, []byte("abcab"), headOf(want))
			wantAll(t, q, []byte("abcab"), want)
		}
	}
}

// stretch is memory, from its first byte to behind its last one.
type stretch struct{ from, to uintptr }

// memoryOf is that of a list, spare room too.
func memoryOf[T any](l []T) []stretch {
	if cap(l) == 0 {
		return nil
	}
	var one T
	from := uintptr(unsafe.Pointer(unsafe.SliceData(l)))
	return []stretch{{from, from + uintptr(cap(l))*unsafe.Sizeof(one)}}
}

// apart tells whether no two stretches share memory.
func apart(l []stretch) bool {
	slices.SortFunc(l, func(a, b stretch) int {
		if a.from < b.from {
			return -1
		}
		return 1
	})
	for i := 1; i < len(l); i++ {
		if l[i].from < l[i-1].to {
			return false
		}
	}
	return true
}

// fill puts one thing into all of a list's memory, spare room too.
func fill[T any](l []T, one T) {
	all := l[:cap(l)]
	for i := range all {
		all[i] = one
	}
}

// TestAnswersAreTheirOwners: P16.6, W6: each list that is answered has memory of its own, spare room too: writing into it changes no other answer, earlier or later.
func TestAnswersAreTheirOwners(t *testing.T) {
	for _, pattern := range forMemory() {
		for _, r := range byEach(t, made(t, pattern)) {
			for _, b := range textsForMemory() {
				want, _ := r.All(b, -1)
				want = slices.Clone(want)
				for i := range want {
					want[i] = slices.Clone(want[i])
				}
				first, errno := r.All(b, -1)
				second, _ := r.All(b, -1)
				caps, _ := r.Submatch(b)
				two, _ := r.Find(b)
				again, _ := r.Submatch(b)
				l := slices.Concat(memoryOf(b), memoryOf(caps), memoryOf(two), memoryOf(again), memoryOf(first), memoryOf(second))
				for _, item := range slices.Concat(first, second) {
					l = append(l, memoryOf(item)...)
				}
				if !apart(l) {
					t.Errorf("%q in %s: memory is shared", pattern, shown(b))
				}
				for _, item := range first {
					fill(item, -9)
				}
				fill(first, nil)
				fill(caps, -9)
				fill(two, -9)
				if third, errno2 := r.All(b, -1); errno2 != errno || !sameAll(second, want) || !sameAll(third, want) || !slices.Equal(again, headOf(want)) {
					t.Errorf("%q in %s: what is done with one answer is seen elsewhere", pattern, shown(b))
				}
				if errno == api.OK {
					wantFirst(t, r, b, headOf(want))
				}
			}
		}
	}
}

// TestNamesAreTheirOwners: P16.2, P16.6: each list of names is new.
func TestNamesAreTheirOwners(t *testing.T) {
	for _, r := range byEach(t, made(t, `(?P<x>\A)(a)(?P<y>b)`)) {
		first, second := r.Names(), r.Names()
		if !apart(append(memoryOf(first), memoryOf(second)...)) {
			t.Errorf("memory is shared")
		}
		fill(first, "other")
		if want := []string{"x", "", "y"}; !slices.Equal(second, want) || !slices.Equal(r.Names(), want) {
			t.Errorf("%q, %q", second, r.Names())
		}
	}
}

// TestNothingKept: P16.6: a Regex holds on neither to the bytes, nor to what the pattern is a piece of, nor do its answers: that memory is given back.
func TestNothingKept(t *testing.T) {
	for engine := range lastEngine + 1 {
		var kept []weak.Pointer[byte]
		build := func() (*regex.Regex, [][]int) {
			source := []byte(`\A([ab]*)c` + strings.Repeat("-", 1000))
			b := append(many(3000, "ab"), 'c')
			r := with(t, made(t, unsafe.String(&source[0], 10)), engine)
			askAll(r, b)
			all, _ := r.All(b, -1)
			kept = append(kept, weak.Make(&source[0]), weak.Make(&b[0]))
			return r, all
		}
		r, all := build()
		for range 3 {
			runtime.GC()
		}
		for i, w := range kept {
			if w.Value() != nil {
				t.Errorf("by %d: %d is kept", engine, i)
			}
		}
		if !sameAll(all, [][]int{{0, 6001, 0, 6000}}) || r.Pattern() != `\A([ab]*)c` {
			t.Errorf("by %d: %v, %q", engine, all, r.Pattern())
		}
		wantFirst(t, r, []byte("bc"), []int{0, 2, 0, 1})
	}
}

// TestLittleMemory: what a call needs is given back: a Regex that was asked of much is no greater.
func TestLittleMemory(t *testing.T) {
	held := func() uint64 {
		var m runtime.MemStats
		runtime.GC()
		runtime.GC()
		runtime.ReadMemStats(&m)
		return m.HeapAlloc
	}
	b := many(200000, "abbabaabb-")
	before := held()
	r := made(t, `(?:a|b)*a[ab]{9}-`)
	askAll(r, b)
	askAll(with(t, r, 4), b)
	if after := held(); after > before+4<<20 {
		t.Errorf("%d bytes are held", after-before)
	}
	runtime.KeepAlive(r)
	runtime.KeepAlive(b)
}

// TestAtOneTime: P16.6, W2: a Regex, asked by many goroutines at one time, of the same bytes and of other ones, answers to each what it answers alone; the first questions of all come at one time, too.
func TestAtOneTime(t *testing.T) {
	texts := textsForMemory()
	for _, pattern := range forMemory() {
		want := make([][][]int, len(texts))
		for i, b := range texts {
			want[i] = allOf(t, made(t, pattern), b)
		}
		for _, r := range byEach(t, made(t, pattern)) {
			var group sync.WaitGroup
			for k := range 6 {
				group.Go(func() {
					for i := range texts {
						i = (i + k) % len(texts)
						wantFirst(t, r, texts[i], headOf(want[i]))
						wantSome(t, r, texts[i], want[i], -1, k)
					}
					if q, errno := r.With(k % 3); q == nil || errno != api.OK || q.Pattern() != pattern || len(q.Names()) != q.Groups() {
						t.Errorf("%q: %v, %d", pattern, q, errno)
					}
				})
			}
			group.Wait()
		}
	}
}
