package many_test

import (
	"bytes"
	"runtime"
	"slices"
	"strings"
	"sync"
	"testing"
	"unsafe"
	"weak"

	"heron/api"
	"heron/many"
)

// forMemory are sets with groups and without, of one and of several patterns, anchored and not.
func forMemory() [][]string {
	return [][]string{{``}, {`b`}, {`a+`, `(b)`, `\d`, `ab`}, {`z`, `(a)(b)?`, `\A(?:(a)|b)`}, {`x`, `y`}, {`(?P<x>a)|(?P<y>-)`, `é`, `\bab`, `b*c`}, slices.Repeat([]string{`(b)`, `a`}, 6)}
}

// textsForMemory are bytes short and long: not every engine is as good for both.
func textsForMemory() [][]byte {
	return [][]byte{nil, []byte("a"), []byte("ab-ab"), []byte("\xFFéa"), repeated(3000, "ab-"), repeated(3000, "-")}
}

// withRoom is a list with spare room, marked.
func withRoom[T any](l []T, mark T) []T {
	return append(slices.Clone(l), mark, mark, mark)[:len(l)]
}

// isMarked tells whether the spare room that withRoom made is as it was.
func isMarked[T comparable](l []T, mark T) bool {
	return slices.Equal(l[:len(l)+3][len(l):], []T{mark, mark, mark})
}

// TestBytesHandedIn: P18.4, W6: the bytes that are handed in are neither changed, nor their spare room, nor kept: what was answered stays, whatever becomes of them, and other bytes in the same memory are answered for themselves.
func TestBytesHandedIn(t *testing.T) {
	for _, l := range forMemory() {
		m := made(t, l...)
		for _, b := range textsForMemory() {
			handed := withRoom(b, 7)
			got := asked(t, m, handed)
			if !bytes.Equal(handed, b) || !isMarked(handed, 7) {
				t.Errorf("%q: what was handed in has changed", l)
			}
			for i := range handed {
				handed[i] = 'z'
			}
			if want := asked(t, made(t, l...), b); !got.same(want) {
				t.Errorf("%q in %s: %v; want %v", l, shown(b), got, want)
			}
			if got, want := asked(t, m, handed), asked(t, made(t, l...), repeated(len(b), "z")); !got.same(want) {
				t.Errorf("%q: other bytes in the same memory: %v; want %v", l, got, want)
			}
		}
	}
	long := withRoom(make([]byte, api.MaxText+1), 7)
	wantLong(t, made(t, `a`), long)
	if !isMarked(long, 7) || bytes.Count(long, []byte{0}) != len(long) {
		t.Errorf("what was refused has changed")
	}
}

// TestListHandedIn: P18.1, P18.4: the list of patterns is neither changed, nor its spare room, nor kept: other patterns in the same memory make no other set. Neither is the memory of the patterns themselves.
func TestListHandedIn(t *testing.T) {
	for _, l := range forMemory() {
		handed := withRoom(l, `(`)
		m := made(t, handed...)
		if !slices.Equal(handed, l) || !isMarked(handed, `(`) {
			t.Errorf("%q: what was handed in has changed", l)
		}
		for which := range handed {
			handed[which] = `.*`
		}
		memory := []byte(strings.Join(l, "") + "-")
		var pieces []string
		at := 0
		for _, pattern := range l {
			pieces = append(pieces, unsafe.String(&memory[at], len(pattern)))
			at += len(pattern)
		}
		other := made(t, pieces...)
		for i := range memory {
			memory[i] = '*'
		}
		for _, b := range textsForMemory() {
			want := asked(t, made(t, l...), b)
			if got := asked(t, m, b); !got.same(want) {
				t.Errorf("%q in %s: %v; want %v", l, shown(b), got, want)
			}
			if got := asked(t, other, b); !got.same(want) {
				t.Errorf("%q in %s, its memory written over: %v; want %v", l, shown(b), got, want)
			}
		}
	}
	// What is refused, neither.
	for _, l := range [][]string{nil, {`a`, `b(`}, {great, great, great}, slices.Repeat([]string{`a`}, api.MaxSet+1)} {
		handed := withRoom(l, `(`)
		many.Compile(handed)
		if !slices.Equal(handed, l) || !isMarked(handed, `(`) {
			t.Errorf("%s: what was refused has changed", shownSet(l))
		}
	}
}

// stretch is memory, from its first byte to behind its last one.
type stretch struct{ from, to uintptr }

// memoryOf is that of a list, spare room too.
func memoryOf[T any](l []T) []stretch {
	if cap(l) == 0 {
		return nil
	}
	var one T
	from := uintptr(unsafe.Pointer(unsafe.SliceData(l)))
	return []stretch{{from, from + uintptr(cap(l))*unsafe.Sizeof(one)}}
}

// apart tells whether no two stretches share memory.
func apart(l []stretch) bool {
	slices.SortFunc(l, func(a, b stretch) int {
		if a.from < b.from {
			return -1
		}
		return 1
	})
	for i := 1; i < len(l); i++ {
		if l[i].from < l[i-1].to {
			return false
		}
	}
	return true
}

// fill puts one thing into all of a list's memory, spare room too.
func fill[T any](l []T, one T) {
	all := l[:cap(l)]
	for i := range all {
		all[i] = one
	}
}

// TestAnswersAreTheirOwners: P18.4, W6: each list that is answered has memory of its own, spare room too: writing into it, or growing it, changes no other answer, earlier or later.
func TestAnswersAreTheirOwners(t *testing.T) {
	for _, l := range forMemory() {
		m := made(t, l...)
		for _, b := range textsForMemory() {
			want := asked(t, made(t, l...), b)
			before := bytes.Clone(b)
			first, second := asked(t, m, b), asked(t, m, b)
			if !apart(slices.Concat(memoryOf(b), memoryOf(first.all), memoryOf(first.caps), memoryOf(second.all), memoryOf(second.caps))) {
				t.Errorf("%q in %s: memory is shared", l, shown(b))
			}
			fill(first.all, -9)
			fill(first.caps, -9)
			_ = append(first.all, 1, 2, 3)
			_ = append(first.caps, 1, 2, 3)
			if !bytes.Equal(b, before) || !second.same(want) || !asked(t, m, b).same(want) {
				t.Errorf("%q in %s: what is done with one answer is seen elsewhere", l, shown(b))
			}
		}
	}
}

// TestNothingKept: P18.4: a set holds on neither to the bytes, nor to the list, nor to what the patterns are pieces of, nor do its answers, nor the error of one that is refused: that memory is given back.
func TestNothingKept(t *testing.T) {
	var kept []weak.Pointer[byte]
	var lists []weak.Pointer[string]
	build := func() (*many.Many, told, error) {
		source := []byte(`([ab]*)c|(-)` + strings.Repeat("-", 1000))
		wrong := []byte(`([ab]*` + strings.Repeat("-", 1000))
		b := append(repeated(3000, "ab"), 'c')
		l := []string{`x`, unsafe.String(&source[0], 12), `y`}
		refused := []string{`x`, unsafe.String(&wrong[0], 6), `y`}
		m := made(t, l...)
		_, _, err := many.Compile(refused)
		got := asked(t, m, b)
		kept = append(kept, weak.Make(&source[0]), weak.Make(&wrong[0]), weak.Make(&b[0]))
		lists = append(lists, weak.Make(&l[0]), weak.Make(&refused[0]))
		return m, got, err
	}
	m, got, err := build()
	for range 3 {
		runtime.GC()
	}
	for i, w := range kept {
		if w.Value() != nil {
			t.Errorf("%d is kept", i)
		}
	}
	for i, w := range lists {
		if w.Value() != nil {
			t.Errorf("the list %d is kept", i)
		}
	}
	if f, _ := api.Seen(err); f != (api.Fault{Code: api.ErrSyntax, At: 6}) {
		t.Errorf("%v", err)
	}
	if !got.same(told{[]int{1}, 1, []int{0, 6001, 0, 6000, -1, -1}}) || !asked(t, m, []byte("y-")).same(told{[]int{1, 2}, 2, []int{0, 1}}) {
		t.Errorf("%v", got)
	}
}

// held is how much memory is in use.
func held() uint64 {
	var m runtime.MemStats
	runtime.GC()
	runtime.GC()
	runtime.ReadMemStats(&m)
	return m.HeapAlloc
}

// TestLittleMemory: what a call needs is given back: a set that was asked of much is no greater, and one that is refused leaves nothing behind.
func TestLittleMemory(t *testing.T) {
	b := repeated(200000, "abbabaabb-")
	before := held()
	m := made(t, `(?:a|b)*a[ab]{9}-`, `(a*)(b*)z`, `\w+`)
	for range 3 {
		asked(t, m, b)
	}
	for range 3 {
		wantFault(t, slices.Repeat([]string{great}, api.MaxSet), -1, api.ErrBig, -1)
	}
	if after := held(); after > before+4<<20 {
		t.Errorf("%d bytes are held", after-before)
	}
	runtime.KeepAlive(m)
	runtime.KeepAlive(b)
}

// TestAtOneTime: P18.4, W2: a set, asked by many goroutines at one time, of the same bytes and of other ones, answers to each what it answers alone; the first questions of all come at one time, too.
func TestAtOneTime(t *testing.T) {
	texts := textsForMemory()
	for _, l := range forMemory() {
		var want []told
		for _, b := range texts {
			want = append(want, asked(t, made(t, l...), b))
		}
		m := made(t, l...)
		var group sync.WaitGroup
		for k := range 8 {
			group.Go(func() {
				for i := range texts {
					i = (i + k) % len(texts)
					all, errno := m.Matches(texts[i])
					which, caps, other := m.First(texts[i])
					if got := (told{all, which, caps}); errno != api.OK || other != api.OK || !got.same(want[i]) {
						t.Errorf("%q in %s: %v, %d, %d; want %v", l, shown(texts[i]), got, errno, other, want[i])
					}
				}
			})
		}
		group.Wait()
	}
}

// TestManyAtOneTime: P18.1, W2: sets that are made and refused at one time, of one list.
func TestManyAtOneTime(t *testing.T) {
	fine, wrong := []string{`a`, `(b)`}, []string{`a`, `b(`}
	var group sync.WaitGroup
	for range 8 {
		group.Go(func() {
			for range 50 {
				m, n, err := many.Compile(fine)
				if m == nil || n != 0 || err != nil {
					t.Errorf("%v, %d, %v", m != nil, n, err)
					return
				}
				if which, caps, errno := m.First([]byte("-b")); which != 1 || !slices.Equal(caps, []int{1, 2, 1, 2}) || errno != api.OK {
					t.Errorf("%d, %v, %d", which, caps, errno)
				}
				m, n, err = many.Compile(wrong)
				if f, _ := api.Seen(err); m != nil || n != 1 || f != (api.Fault{Code: api.ErrSyntax, At: 2}) {
					t.Errorf("%v, %d, %v", m != nil, n, err)
				}
			}
		})
	}
	group.Wait()
}

// TestAskedAgain: W2: what is asked ahead changes nothing.
func TestAskedAgain(t *testing.T) {
	for _, l := range forMemory() {
		m := made(t, l...)
		for range 2 {
			for _, b := range textsForMemory() {
				if got, want := asked(t, m, b), asked(t, made(t, l...), b); !got.same(want) {
					t.Errorf("%q in %s: %v; want %v", l, shown(b), got, want)
				}
			}
			wantLong(t, m, make([]byte, api.MaxText+1))
		}
	}
}
