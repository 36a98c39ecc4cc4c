package onepass_test

import (
	"slices"
	"sync"
	"testing"
	"unsafe"

	"heron/api"
	"heron/onepass"
)

// withRoom is a list with spare room, marked.
func withRoom[T any](l []T, mark T) []T { return append(slices.Clone(l), mark)[:len(l)] }

// roomOf is what stands in the spare room that withRoom made.
func roomOf[T any](l []T) T { return l[:len(l)+1][len(l)] }

// The marks.

func markOfRanges() api.Range { return api.Range{Lo: -7, Hi: -7} }

func markOfInsts() api.Inst { return api.Inst{Op: -7} }

const markOfRunes = -7

// roomy is a program whose lists have spare room, marked.
func roomy(p api.Program) api.Program {
	p.Insts = withRoom(p.Insts, markOfInsts())
	for i := range p.Insts {
		p.Insts[i].Ranges = withRoom(p.Insts[i].Ranges, markOfRanges())
	}
	return p
}

// marked tells whether the spare room of a program is as roomy made it.
func marked(p api.Program) bool {
	unmarked := func(i api.Inst) bool { return roomOf(i.Ranges) != markOfRanges() }
	return roomOf(p.Insts).Op == -7 && !slices.ContainsFunc(p.Insts, unmarked)
}

// spoil makes nothing of a program, in its own memory, spare room too.
func spoil(p api.Program) {
	for _, i := range p.Insts {
		clear(i.Ranges[:cap(i.Ranges)])
	}
	clear(p.Insts[:cap(p.Insts)])
}

// stretch is memory, from its first byte to behind its last one.
type stretch struct{ from, to uintptr }

// memoryOfList is that of a list, spare room too.
func memoryOfList[T any](l []T) []stretch {
	if cap(l) == 0 {
		return nil
	}
	var one T
	from := uintptr(unsafe.Pointer(unsafe.SliceData(l)))
	return []stretch{{from, from + uintptr(cap(l))*unsafe.Sizeof(one)}}
}

// memoryOf is that of all the lists of a program.
func memoryOf(p api.Program) []stretch {
	l := memoryOfList(p.Insts)
	for _, i := range p.Insts {
		l = append(l, memoryOfList(i.Ranges)...)
	}
	return l
}

// apart tells whether no two stretches share memory.
func apart(l []stretch) bool {
	slices.SortFunc(l, func(a, b stretch) int {
		if a.from < b.from {
			return -1
		}
		return 1
	})
	for i := 1; i < len(l); i++ {
		if l[i].from < l[i-1].to {
			return false
		}
	}
	return true
}

// forMemory are runs of every kind: that find at once, late, once more, and nothing.
func forMemory(t testing.TB) []search {
	var l []search
	for _, pattern := range []string{``, `a`, `b`, `a*`, `a*?b`, `(a)|(b)`, `(?:(a)|b)*`, `(?:ab|c)?(d*)`, `\b(\w+)\b$`, `[^a-c]`, `((a)+)b`, `(?:[x-z0-9]|[a-wA-Z])`, `z|[d-f]|a|[b-c]a`} {
		for _, text := range []string{"", "a", "b", "ab", "aab", "abcd", "--aab"} {
			l = append(l, search{p: ofPattern(t, pattern), text: runesOf(text)})
		}
	}
	return append(l, search{p: base(), text: runesOf("ae")}, search{p: whole(1002, match(7))}, search{p: whole(2, ifA(0)), text: runesOf("aa")})
}

// TestHandedIn: P13.3, W6: what is handed in is neither changed, nor its spare room, nor kept; so too where it is refused.
func TestHandedIn(t *testing.T) {
	wrong := base()
	wrong.Insts[5].X = 3
	l := append(forMemory(t), search{p: wrong, text: runesOf("ab")}, search{}, search{p: base(), at: 1}, search{p: base(), at: -1, text: runesOf("ab")}, search{p: whole(3, match(0)), at: 9})
	for _, p := range append(manyWays(t), ofPattern(t, `[x-z0-9]|[a-y]|[A-Z]`)) {
		l = append(l, search{p: p, text: runesOf("ab")})
	}
	for _, x := range l {
		wantIs := onepass.Is(x.p)
		want, wantErrno := onepass.Run(x.p, x.text, x.at)
		p, text := roomy(x.p), withRoom(x.text, markOfRunes)
		is := onepass.Is(p)
		f, errno := onepass.Run(p, text, x.at)
		what := shown(x.p, x.text, x.at)
		if !same(p, x.p) || !marked(p) || !slices.Equal(text, x.text) || roomOf(text) != markOfRunes {
			t.Errorf("%s: what was handed in has changed", what)
		}
		spoil(p)
		clear(text[:cap(text)])
		if is != wantIs || errno != wantErrno || !sameFound(f, want) {
			t.Errorf("%s: the answer hangs on what was handed in", what)
		}
		if again, errno := onepass.Run(x.p, x.text, x.at); errno != wantErrno || !sameFound(again, want) || onepass.Is(x.p) != wantIs {
			t.Errorf("%s: %+v, then %+v", what, want, again)
		}
	}
}

// TestAnswersShareNothing: P13.3, W6: what is answered has memory of its own, spare room too, apart from what was handed in and from another answer.
func TestAnswersShareNothing(t *testing.T) {
	for _, x := range forMemory(t) {
		p, text := roomy(x.p), withRoom(x.text, markOfRunes)
		first, second := ran(t, p, text, x.at), ran(t, p, text, x.at)
		what := shown(x.p, x.text, x.at)
		if !apart(slices.Concat(memoryOf(p), memoryOfList(text), memoryOfList(first.Caps), memoryOfList(second.Caps))) {
			t.Errorf("%s: memory is shared", what)
		}
		for i := range first.Caps[:cap(first.Caps)] {
			first.Caps[:cap(first.Caps)][i] = 77
		}
		if third := ran(t, p, text, x.at); !sameFound(second, third) {
			t.Errorf("%s: %+v, then %+v", what, second, third)
		}
	}
}

// TestEmptyLists: W5: a nil list is as an empty one, within instructions too.
func TestEmptyLists(t *testing.T) {
	for _, x := range forMemory(t) {
		p := x.p
		p.Insts = slices.Clone(p.Insts)
		for i := range p.Insts {
			p.Insts[i].Ranges = append([]api.Range{}, p.Insts[i].Ranges...)
		}
		wantIs(t, p, true)
		wantRun(t, p, append([]int{}, x.text...), x.at, ran(t, x.p, x.text, x.at))
	}
	for _, p := range []api.Program{{}, {Insts: []api.Inst{}}, {Caps: 2, Insts: []api.Inst{}}, whole(2, api.Inst{Op: api.OpRune, Ranges: []api.Range{}})} {
		wantIs(t, p, false)
		wantRefused(t, "may not be", p, []int{}, 0, api.ErrProg)
	}
}

// TestAtOneTime: W2: many calls at one time answer what each answers alone, the arguments in common.
func TestAtOneTime(t *testing.T) {
	var group sync.WaitGroup
	ways := manyWays(t)
	for _, x := range forMemory(t) {
		x.want = ran(t, x.p, x.text, x.at)
		for range 3 {
			group.Go(func() {
				for n := range 10 {
					wantIs(t, x.p, true)
					wantIs(t, ways[n%len(ways)], false)
					wantRun(t, x.p, x.text, x.at, x.want)
					wantRefused(t, "at one time", x.p, x.text, -1, api.ErrArg)
				}
			})
		}
	}
	group.Wait()
}
