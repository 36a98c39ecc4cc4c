package replace_test

import (
	"bytes"
	"runtime"
	"slices"
	"strings"
	"sync"
	"testing"
	"unsafe"
	"weak"

	"heron/api"
	"heron/regex"
	"heron/replace"
)

// forMemory are patterns, each of two groups, the first of which has a name.
func forMemory() []string {
	return []string{`(?P<x>a)(b)?`, `(?P<x>a*)(b*)`, `(?P<x>)()`, `\A(?P<x>a)|(z)`, `(?P<x>.)(z)?`, `(?P<x>z)(z)`}
}

// templatesForMemory are templates for these.
func templatesForMemory() []string {
	return []string{"", "-", "$0", "<${x}>$$", "$2$1$2", "a$$b$0c"}
}

// textsForMemory are bytes short and long.
func textsForMemory() [][]byte {
	return [][]byte{nil, []byte("a"), []byte("ab-ab"), []byte("\xFFéa"), many(3000, "ab-")}
}

// withRoom is a list with spare room, marked.
func withRoom[T any](l []T, mark T) []T {
	return append(slices.Clone(l), mark, mark, mark)[:len(l)]
}

// isMarked tells whether the spare room that withRoom made is as it was.
func isMarked[T comparable](l []T, mark T) bool {
	return slices.Equal(l[:len(l)+3][len(l):], []T{mark, mark, mark})
}

// TestHandedIn: P17.5, W6: bytes and captures that are handed in are neither changed, nor their spare room, nor kept: what was answered stays, whatever becomes of them.
func TestHandedIn(t *testing.T) {
	for _, pattern := range forMemory() {
		r := made(t, pattern)
		for _, template := range templatesForMemory() {
			x := read(t, r, template)
			for _, b := range textsForMemory() {
				handed := withRoom(b, 7)
				caps := withRoom([]int{0, len(b), 0, len(b) / 2, -1, -1}, 7)
				before := slices.Clone(caps)
				one, _ := x.Expand(handed, caps)
				all, _ := replace.All(r, handed, template)
				l, _ := replace.Split(r, handed, -1)
				if !bytes.Equal(handed, b) || !isMarked(handed, 7) || !slices.Equal(caps, before) || !isMarked(caps, 7) {
					t.Errorf("%q: what was handed in has changed", pattern)
				}
				for i := range handed {
					handed[i] = 'z'
				}
				for i := range caps {
					caps[i] = 0
				}
				wantExpanded(t, x, b, before, string(one), api.OK)
				if !bytes.Equal(all, allOf(t, r, b, template)) || !samePieces(l, splitOf(t, r, b, -1)) {
					t.Errorf("%q in %s by %q: what was answered has changed", pattern, shown(b), template)
				}
			}
		}
	}
	// What is refused, neither.
	b := append(many(api.MaxText+1, "a"), 7, 7, 7)[:api.MaxText+1]
	caps := withRoom([]int{0, 1, 0, 1, 5}, 7)
	r := made(t, forMemory()[0])
	x := read(t, r, "$1")
	x.Expand(b, caps)
	x.Expand(b[:5], caps)
	x.Expand(b[:5], caps[:4])
	replace.All(r, b, "$1")
	replace.Split(r, b, -1)
	if !isMarked(b, 7) || bytes.Count(b, []byte("a")) != len(b) || !slices.Equal(caps, []int{0, 1, 0, 1, 5}) || !isMarked(caps, 7) {
		t.Errorf("what was refused has changed")
	}
}

// TestTemplateHandedIn: P17.1, P17.5: the memory of the template's text is not kept: whatever stands there afterwards, the template is what it was.
func TestTemplateHandedIn(t *testing.T) {
	r := made(t, forMemory()[0])
	b, caps := []byte("ab"), []int{0, 2, 0, 1, 1, 2}
	for _, text := range []string{"-", "$0", "<${x}>$$", "$2$1$2", "a$$b$0c", "$$", "${1}", "long enough for memory of its own $1 and once more so"} {
		memory := []byte(text)
		x := read(t, r, unsafe.String(&memory[0], len(memory)))
		got, _ := x.Expand(b, caps)
		for i := range memory {
			memory[i] = "$*0"[i%3]
		}
		again, errno := x.Expand(b, caps)
		want, _ := read(t, r, text).Expand(b, caps)
		if errno != api.OK || !bytes.Equal(got, want) || !bytes.Equal(again, want) {
			t.Errorf("%q: %q, then %q, %d; want %q", text, got, again, errno, want)
		}
	}
	memory := []byte("[$1]")
	got := allOf(t, r, b, unsafe.String(&memory[0], len(memory)))
	copy(memory, "$$$$")
	if string(got) != "[a]" {
		t.Errorf("%q", got)
	}
}

// stretch is memory, from its first byte to behind its last one.
type stretch struct{ from, to uintptr }

// memoryOf is that of a list, spare room too.
func memoryOf[T any](l []T) []stretch {
	if cap(l) == 0 {
		return nil
	}
	var one T
	from := uintptr(unsafe.Pointer(unsafe.SliceData(l)))
	return []stretch{{from, from + uintptr(cap(l))*unsafe.Sizeof(one)}}
}

// apart tells whether no two stretches share memory.
func apart(l []stretch) bool {
	slices.SortFunc(l, func(a, b stretch) int {
		if a.from < b.from {
			return -1
		}
		return 1
	})
	for i := 1; i < len(l); i++ {
		if l[i].from < l[i-1].to {
			return false
		}
	}
	return true
}

// fill puts one thing into all of a list's memory, spare room too.
func fill[T any](l []T, one T) {
	all := l[:cap(l)]
	for i := range all {
		all[i] = one
	}
}

// TestAnswersAreTheirOwners: P17.5, W6: what is answered has memory of its own, spare room too, each of the pieces as well: writing into one, or growing it, changes no other and no later answer.
func TestAnswersAreTheirOwners(t *testing.T) {
	for _, pattern := range forMemory() {
		for _, r := range byEach(t, made(t, pattern)) {
			for n, b := range textsForMemory() {
				template := templatesForMemory()[n%6]
				x := read(t, r, template)
				caps := []int{0, len(b), 0, 0, -1, -1}
				ask := func() [][]byte {
					one, _ := x.Expand(b, caps)
					return append(splitOf(t, r, b, -1), one, allOf(t, r, b, template), splitOf(t, r, b, 1)[0])
				}
				want := make([][]byte, 0)
				for _, l := range ask() {
					want = append(want, bytes.Clone(l))
				}
				first, second := ask(), ask()
				l := slices.Concat(memoryOf(b), memoryOf(caps), memoryOf(first), memoryOf(second))
				for _, answer := range slices.Concat(first, second) {
					l = append(l, memoryOf(answer)...)
				}
				if !apart(l) {
					t.Errorf("%q in %s: memory is shared", pattern, shown(b))
				}
				before := bytes.Clone(b)
				for i, answer := range first {
					fill(answer, '!')
					first[i] = append(answer, "grown"...)
				}
				if !bytes.Equal(b, before) || !samePieces(second, want) || !samePieces(ask(), want) {
					t.Errorf("%q in %s: what is done with one answer is seen elsewhere", pattern, shown(b))
				}
			}
		}
	}
}

// TestGrowing: P17.5: pieces that lie side by side: one that is grown does not run into the next one.
func TestGrowing(t *testing.T) {
	b := []byte("one,two,,three")
	l := splitOf(t, made(t, `,`), b, -1)
	for i := range l {
		l[i] = append(l[i], "----"...)
	}
	if !samePieces(l, pieces("one----", "two----", "----", "three----")) || string(b) != "one,two,,three" {
		t.Errorf("%q, %q", l, b)
	}
}

// TestNothingKept: P17.5: a template holds on neither to the Regex, nor to its text's memory, nor to bytes and captures; nor do answers: that memory is given back.
func TestNothingKept(t *testing.T) {
	var kept []weak.Pointer[byte]
	var regexes []weak.Pointer[regex.Regex]
	build := func() (*replace.Template, [][]byte) {
		// Long enough for memory of its own.
		const named = "a_name_of_many_letters"
		template := "<$1-${" + named + "}>$$"
		source := []byte(template + strings.Repeat("-", 5000))
		pattern := []byte(`(a+)(?P<` + named + `>b)?`)
		b := append(many(3000, "ab"), 'c')
		r := made(t, unsafe.String(&pattern[0], len(pattern)))
		name := unsafe.StringData(r.Names()[1])
		x := read(t, r, unsafe.String(&source[0], len(template)))
		one, _ := x.Expand(b, []int{0, 2, 0, 1, 1, 2})
		l := append(splitOf(t, r, b, 2), one, allOf(t, r, b, "$0")[:3])
		kept = append(kept, weak.Make(&source[0]), weak.Make(&pattern[0]), weak.Make(&b[0]), weak.Make(name))
		regexes = append(regexes, weak.Make(r))
		return x, l
	}
	x, l := build()
	for range 3 {
		runtime.GC()
	}
	for i, w := range kept {
		if w.Value() != nil {
			t.Errorf("%d is kept", i)
		}
	}
	if regexes[0].Value() != nil {
		t.Errorf("the Regex is kept")
	}
	if string(l[len(l)-2]) != "<a-b>$" || string(l[len(l)-1]) != "aba" {
		t.Errorf("%q", l)
	}
	wantExpanded(t, x, []byte("aab"), []int{0, 3, 0, 2, 2, 3}, "<aa-b>$", api.OK)
}

// held is how much memory is in use.
func held() uint64 {
	var m runtime.MemStats
	runtime.GC()
	runtime.GC()
	runtime.ReadMemStats(&m)
	return m.HeapAlloc
}

// TestLittleMemory: P17.5: a template holds neither a great Regex's names and program, nor more than it needs of a great text; to expand it leaves nothing behind.
func TestLittleMemory(t *testing.T) {
	var pattern strings.Builder
	for i := range api.MaxGroups {
		pattern.WriteString("(?P<" + strings.Repeat("n", 20) + string(rune('a'+i/26)) + string(rune('a'+i%26)) + ">a{30})")
	}
	before := held()
	var l []*replace.Template
	for range 20 {
		r := made(t, pattern.String())
		l = append(l, read(t, r, "$1-$2"))
	}
	b := many(1<<20, "a")
	for _, x := range l {
		x.Expand(b, slices.Repeat([]int{0, 1 << 20}, api.MaxGroups+1))
	}
	after := held()
	// 500 groups take 12000 bytes of each.
	if after > before+20*30000+2<<20 {
		t.Errorf("%d bytes are held", after-before)
	}
	runtime.KeepAlive(l)
	runtime.KeepAlive(b)
}

// TestAtOneTime: W2: a template and a Regex, asked by many goroutines at one time, answer to each what they answer alone.
func TestAtOneTime(t *testing.T) {
	for _, pattern := range forMemory() {
		r := made(t, pattern)
		for _, template := range templatesForMemory() {
			x := read(t, r, template)
			var group sync.WaitGroup
			for range 6 {
				group.Go(func() {
					for _, b := range textsForMemory() {
						own := made(t, pattern)
						caps := []int{0, len(b), 0, len(b) / 3, -1, -1}
						want, _ := read(t, own, template).Expand(b, caps)
						wantExpanded(t, x, b, caps, string(want), api.OK)
						if got := allOf(t, r, b, template); !bytes.Equal(got, allOf(t, own, b, template)) {
							t.Errorf("%q in %s by %q: %s", pattern, shown(b), template, shown(got))
						}
						if got := splitOf(t, r, b, 3); !samePieces(got, splitOf(t, own, b, 3)) {
							t.Errorf("%q in %s: %s", pattern, shown(b), shownAll(got))
						}
					}
				})
			}
			group.Wait()
		}
	}
}
