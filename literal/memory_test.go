package literal_test

import (
	"runtime"
	"slices"
	"sync"
	"testing"
	"unsafe"
	"weak"

	"heron/api"
	"heron/literal"
)

// withRoom is a list with spare room, marked.
func withRoom[T any](l []T, mark T) []T { return append(slices.Clone(l), mark)[:len(l)] }

// roomOf is what stands in the spare room that withRoom made.
func roomOf[T any](l []T) T { return l[:len(l)+1][len(l)] }

// fill puts one thing into all of a list's memory, spare room too.
func fill[T any](l []T, one T) {
	all := l[:cap(l)]
	for i := range all {
		all[i] = one
	}
}

// The marks.

func markOfRanges() api.Range { return api.Range{Lo: -7, Hi: -7} }

func markOfInsts() api.Inst { return api.Inst{Op: -7} }

const markOfRunes = -7

// roomy is a program whose lists have spare room, marked.
func roomy(p api.Program) api.Program {
	p.Insts = withRoom(p.Insts, markOfInsts())
	for i := range p.Insts {
		p.Insts[i].Ranges = withRoom(p.Insts[i].Ranges, markOfRanges())
	}
	return p
}

// marked tells whether the spare room of a program is as roomy made it.
func marked(p api.Program) bool {
	unmarked := func(i api.Inst) bool { return roomOf(i.Ranges) != markOfRanges() }
	return roomOf(p.Insts).Op == -7 && !slices.ContainsFunc(p.Insts, unmarked)
}

// spoil makes other things of a program's lists, in their own memory, spare room too.
func spoil(p api.Program) {
	for _, i := range p.Insts {
		fill(i.Ranges, api.Range{Lo: 'x', Hi: 'x'})
	}
	fill(p.Insts, fail())
}

// stretch is memory, from its first byte to behind its last one.
type stretch struct{ from, to uintptr }

// memoryOfList is that of a list, spare room too.
func memoryOfList[T any](l []T) []stretch {
	if cap(l) == 0 {
		return nil
	}
	var one T
	from := uintptr(unsafe.Pointer(unsafe.SliceData(l)))
	return []stretch{{from, from + uintptr(cap(l))*unsafe.Sizeof(one)}}
}

// memoryOf is that of all the lists of a program.
func memoryOf(p api.Program) []stretch {
	l := memoryOfList(p.Insts)
	for _, i := range p.Insts {
		l = append(l, memoryOfList(i.Ranges)...)
	}
	return l
}

// apart tells whether no two stretches share memory.
func apart(l []stretch) bool {
	slices.SortFunc(l, func(a, b stretch) int {
		if a.from < b.from {
			return -1
		}
		return 1
	})
	for i := 1; i < len(l); i++ {
		if l[i].from < l[i-1].to {
			return false
		}
	}
	return true
}

// forMemory are programs with rows of no runes, of few, and of many, the whole and not, and such as may not be.
func forMemory(t testing.TB) []api.Program {
	l := []api.Program{base(), {}, changed(func(p *api.Program) { p.Insts[5].X = 3 }), ofCaps(3), chained(1000, true, match(0), ifA), chained(1001, false, fail(), ifB), begun(ifA(1), ifB(0))}
	for _, pattern := range []string{``, `a`, `ab`, `abc`, `abcd`, `abcde`, `(a)(b)`, `a*`, `ab*`, `a|b`, `[ab]c`, `a{17}b?`, `^a`} {
		l = append(l, ofPattern(t, pattern))
	}
	return l
}

// TestProgramHandedIn: P15.4, W6: the program that is handed in is neither changed, nor its spare room, nor kept: the row stays what it is, whatever stands in the program's lists afterwards.
func TestProgramHandedIn(t *testing.T) {
	for _, p := range forMemory(t) {
		want, wantWhole := modelRow(p)
		handed := roomy(p)
		row, whole := literal.Prefix(handed)
		if !same(handed, p) || !marked(handed) {
			t.Errorf("%s: what was handed in has changed", shownProgram(p))
		}
		spoil(handed)
		if !slices.Equal(row, want) || whole != wantWhole {
			t.Errorf("%s: %s, %v; want %s, %v", shownProgram(p), shown(row), whole, shown(want), wantWhole)
		}
		wantPrefix(t, p, want, wantWhole)
	}
}

// TestRowsAreTheirOwners: P15.4, W6: each row has memory of its own, apart from the program and from another row, and no spare room: whatever its owner does with it, no other answer changes.
func TestRowsAreTheirOwners(t *testing.T) {
	for _, p := range forMemory(t) {
		handed := roomy(p)
		first, _ := literal.Prefix(handed)
		second, whole := literal.Prefix(handed)
		want := slices.Clone(second)
		if !apart(slices.Concat(memoryOf(handed), memoryOfList(first), memoryOfList(second))) {
			t.Errorf("%s: memory is shared", shownProgram(p))
		}
		if cap(first) != len(first) || cap(second) != len(second) {
			t.Errorf("%s: there is spare room", shownProgram(p))
		}
		longer, other := append(first, 'x', 'y'), append(first, 'z')
		fill(first, 'z')
		if len(longer) != len(want)+2 || longer[len(want)] != 'x' || longer[len(want)+1] != 'y' || other[len(want)] != 'z' || !slices.Equal(longer[:len(want)], want) {
			t.Errorf("%s: what is put behind a row is written into it", shownProgram(p))
		}
		if !slices.Equal(second, want) || !same(handed, p) || !marked(handed) {
			t.Errorf("%s: what is done with one row is seen elsewhere", shownProgram(p))
		}
		wantPrefix(t, p, want, whole)
	}
}

// rowsForMemory are rows to look for, textsForMemory texts to look in.
func rowsForMemory() []string { return []string{"", "a", "ab", "aab", "abab", "abaab", "aaaa"} }

func textsForMemory() []string {
	return []string{"", "a", "ab", "ba", "aaab", "abaabaab", "ababab", "aaaaaa", "xx-abab"}
}

// TestRowHandedIn: P15.4, W6: the row that is handed in is neither changed, nor its spare room, nor kept: other things in the same list afterwards change no answer.
func TestRowHandedIn(t *testing.T) {
	for _, s := range rowsForMemory() {
		lit := runesOf(s)
		for _, other := range []int{'a', 'b', 'x', 0, -7} {
			handed := withRoom(lit, markOfRunes)
			f := made(t, handed)
			if !slices.Equal(handed, lit) || roomOf(handed) != markOfRunes {
				t.Errorf("%q: what was handed in has changed", s)
			}
			for _, text := range textsForMemory() {
				wantNexts(t, f, lit, runesOf(text))
				// From the second text on nothing in the list is as it was.
				fill(handed, other)
			}
			if len(lit) > 0 && slices.ContainsFunc(handed[:cap(handed)], func(r int) bool { return r != other }) {
				t.Errorf("%q: to ask has changed what was handed in", s)
			}
		}
	}
	long := withRoom(many(api.MaxText+1, 5), markOfRunes)
	if _, errno := literal.New(long); errno != api.ErrLong || roomOf(long) != markOfRunes || slices.ContainsFunc(long, func(r int) bool { return r != 5 }) {
		t.Errorf("what was refused has changed")
	}
}

// TestTextHandedIn: P15.4, W6: the text that is handed in is neither changed, nor its spare room, nor kept: another one in the same list is answered for itself.
func TestTextHandedIn(t *testing.T) {
	for _, s := range rowsForMemory() {
		lit := runesOf(s)
		f := made(t, lit)
		memory := make([]int, 20)
		for _, text := range append(textsForMemory(), textsForMemory()...) {
			l := memory[:copy(memory, runesOf(text))]
			memory[len(l)] = markOfRunes
			wantNexts(t, f, lit, l)
			if !slices.Equal(l, runesOf(text)) || roomOf(l) != markOfRunes {
				t.Errorf("%q in %q: what was handed in has changed", s, text)
			}
		}
		// The row is not looked for in the room behind the text, nor in what stands there of it.
		room := append(slices.Clone(lit), lit...)
		for length := range len(lit) {
			if place := f.Next(room[:length], 0); place != -1 {
				t.Errorf("%q in %d of its runes: %d", s, length, place)
			}
		}
	}
}

// TestRowInText: P15.4: the row and the text may be the same list, or parts of one another.
func TestRowInText(t *testing.T) {
	l := runesOf("abaababaab")
	want := slices.Clone(l)
	for from := range l {
		for to := from; to <= len(l); to++ {
			f := made(t, l[from:to])
			wantNexts(t, f, want[from:to], l)
			wantNexts(t, f, want[from:to], l[from:to])
		}
	}
	if !slices.Equal(l, want) {
		t.Errorf("%v", l)
	}
}

// TestNothingKept: P15.4: a finder holds on neither to the row, be it empty, nor to a text, a row of Prefix not to the program: their memory is given back.
func TestNothingKept(t *testing.T) {
	var kept []weak.Pointer[int]
	var insts weak.Pointer[api.Inst]
	var ranges weak.Pointer[api.Range]
	build := func(count int) (*literal.Finder, []int) {
		lit, text := many(100, int('a')), many(200, int('a'))
		f := made(t, lit[:count])
		f.Next(text, 0)
		p := chained(100, false, match(0), ifA)
		row, _ := literal.Prefix(p)
		kept = append(kept, weak.Make(&lit[0]), weak.Make(&text[0]))
		insts, ranges = weak.Make(&p.Insts[0]), weak.Make(&p.Insts[0].Ranges[0])
		return f, row
	}
	for _, count := range []int{0, 1, 50, 100} {
		f, row := build(count)
		for range 3 {
			runtime.GC()
		}
		if slices.ContainsFunc(kept, func(w weak.Pointer[int]) bool { return w.Value() != nil }) || insts.Value() != nil || ranges.Value() != nil {
			t.Errorf("%d runes: something is kept", count)
		}
		if place := f.Next(row, 99-count); place != 99-count {
			t.Errorf("%d runes: %d", count, place)
		}
		runtime.KeepAlive(f)
		runtime.KeepAlive(row)
	}
}

// TestEmptyLists: W5: a nil list is as an empty one, within instructions too.
func TestEmptyLists(t *testing.T) {
	for _, p := range forMemory(t) {
		want, whole := modelRow(p)
		p.Insts = slices.Clone(p.Insts)
		for i := range p.Insts {
			p.Insts[i].Ranges = append([]api.Range{}, p.Insts[i].Ranges...)
		}
		wantPrefix(t, p, want, whole)
	}
	for _, none := range [][]int{nil, {}} {
		for _, text := range [][]int{nil, {}} {
			wantNext(t, none, text, 0, 0)
			wantNext(t, none, text, 1, -1)
			wantNext(t, none, text, -1, -1)
			wantNext(t, []int{0}, text, 0, -1)
		}
	}
}

// TestAtOneTime: W2: many calls at one time, of one finder too, answer what each answers alone, the arguments in common.
func TestAtOneTime(t *testing.T) {
	var group sync.WaitGroup
	programs := forMemory(t)
	for _, s := range rowsForMemory() {
		lit := runesOf(s)
		shared := made(t, lit)
		for k := range 4 {
			group.Go(func() {
				own, errno := literal.New(lit)
				if errno != api.OK {
					t.Errorf("%q: %d", s, errno)
					return
				}
				for i := range textsForMemory() {
					text := runesOf(textsForMemory()[(i+k)%len(textsForMemory())])
					wantNexts(t, shared, lit, text)
					wantNexts(t, own, lit, text)
				}
				for i := range programs {
					p := programs[(i+k)%len(programs)]
					want, whole := modelRow(p)
					wantPrefix(t, p, want, whole)
				}
			})
		}
	}
	group.Wait()
}
