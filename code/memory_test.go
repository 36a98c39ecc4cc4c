package code_test

import (
	"bytes"
	"slices"
	"strings"
	"sync"
	"testing"
	"unsafe"

	"heron/api"
	"heron/code"
)

// withRoom is a list with spare room, marked.
func withRoom[T any](l []T, mark T) []T { return append(slices.Clone(l), mark)[:len(l)] }

// roomOf is what stands in the spare room that withRoom made.
func roomOf[T any](l []T) T { return l[:len(l)+1][len(l)] }

// The marks.

func markOfRanges() api.Range { return api.Range{Lo: -7, Hi: -7} }

func markOfInsts() api.Inst { return api.Inst{Op: -7} }

// roomy is a program whose lists have spare room, marked.
func roomy(p api.Program) api.Program {
	p.Insts = withRoom(p.Insts, markOfInsts())
	for i := range p.Insts {
		p.Insts[i].Ranges = withRoom(p.Insts[i].Ranges, markOfRanges())
	}
	return p
}

// marked tells whether the spare room of a program is as roomy made it.
func marked(p api.Program) bool {
	unmarked := func(i api.Inst) bool { return roomOf(i.Ranges) != markOfRanges() }
	return roomOf(p.Insts).Op == -7 && !slices.ContainsFunc(p.Insts, unmarked)
}

// spoil makes nothing of a program, in its own memory, spare room too.
func spoil(p api.Program) {
	for _, i := range p.Insts {
		clear(i.Ranges[:cap(i.Ranges)])
	}
	clear(p.Insts[:cap(p.Insts)])
}

// copied is a program in memory of its own.
func copied(p api.Program) api.Program {
	p.Insts = slices.Clone(p.Insts)
	for i := range p.Insts {
		p.Insts[i].Ranges = slices.Clone(p.Insts[i].Ranges)
	}
	return p
}

// stretch is memory, from its first byte to behind its last one.
type stretch struct{ from, to uintptr }

// memoryOfList is that of a list, spare room too.
func memoryOfList[T any](l []T) []stretch {
	if cap(l) == 0 {
		return nil
	}
	var one T
	from := uintptr(unsafe.Pointer(unsafe.SliceData(l)))
	return []stretch{{from, from + uintptr(cap(l))*unsafe.Sizeof(one)}}
}

// memoryOf is that of all the lists of a program.
func memoryOf(p api.Program) []stretch {
	l := memoryOfList(p.Insts)
	for _, i := range p.Insts {
		l = append(l, memoryOfList(i.Ranges)...)
	}
	return l
}

// apart tells whether no two stretches share memory.
func apart(l []stretch) bool {
	slices.SortFunc(l, func(a, b stretch) int {
		if a.from < b.from {
			return -1
		}
		return 1
	})
	for i := 1; i < len(l); i++ {
		if l[i].from < l[i-1].to {
			return false
		}
	}
	return true
}

// TestProgramsHandedIn: P10.4: a program that is handed in is neither changed, nor its spare room, nor kept; so too one that is refused.
func TestProgramsHandedIn(t *testing.T) {
	wrong := base()
	wrong.Insts[5].X = 3
	for _, p := range append(some(t), wrong, api.Program{}, whole(2, ifRune(0, rangesOf('b', 'a')...))) {
		wantText, errnoOfText := code.Print(p)
		want, errno := code.Bytes(p)
		given := roomy(p)
		wantPrint(t, given, wantText, errnoOfText)
		wantBytes(t, given, want, errno)
		if !same(given, p) || !marked(given) {
			t.Errorf("%s: what was handed in has changed", shown(p))
		}
		text, _ := code.Print(given)
		b, _ := code.Bytes(given)
		spoil(given)
		if text != wantText || !bytes.Equal(b, want) {
			t.Errorf("%s: the answer hangs on what was handed in", shown(p))
		}
	}
}

// TestBytesHandedIn: P10.4: bytes that are handed in are neither changed, nor their spare room, nor kept; so too such as are refused.
func TestBytesHandedIn(t *testing.T) {
	var all [][]byte
	for _, p := range some(t) {
		b := modelBytes(p)
		turned := slices.Clone(b)
		turned[len(b)/2] ^= 1
		all = append(all, b, turned, b[:len(b)-1], sealed(b[:len(b)/2]))
	}
	for _, b := range append(all, nil, []byte{72}, many(1000, byte(255))) {
		want, wantErrno := code.Load(b)
		given := withRoom(b, 77)
		p, errno := code.Load(given)
		if !bytes.Equal(given, b) || roomOf(given) != 77 {
			t.Errorf("%s: what was handed in has changed", shownBytes(b))
		}
		clear(given[:cap(given)])
		if errno != wantErrno || !same(p, want) {
			t.Errorf("%s: the answer hangs on what was handed in", shownBytes(b))
		}
	}
}

// TestAnswersShareNothing: P10.4, W6: all lists of an answer have memory of their own, and two answers have none in common.
func TestAnswersShareNothing(t *testing.T) {
	ranges := rangesOf('a', 'b', 'd', 'e')
	// One list stands in what is handed in several times; in an answer none does.
	twice := whole(2, ifRune(1, ranges...), ifRune(2, ranges...), match(0))
	for _, p := range append(some(t), twice) {
		text, b := printed(t, p), bytesOf(t, p)
		read, _ := code.Read(text)
		again, _ := code.Read(text)
		loaded, _ := code.Load(b)
		anew, _ := code.Load(b)
		if !apart(slices.Concat(memoryOfList(b), memoryOf(read), memoryOf(again), memoryOf(loaded), memoryOf(anew), memoryOfList(bytesOf(t, p)), memoryOfList(p.Insts))) {
			t.Errorf("%s: memory is shared", shown(p))
		}
		spoil(read)
		spoil(loaded)
		if !same(again, p) || !same(anew, p) {
			t.Errorf("%s: an answer hangs on another one", shown(p))
		}
		kept := bytes.Clone(b)
		clear(b[:cap(b)])
		wantBytes(t, p, kept, api.OK)
		wantPrint(t, p, text, api.OK)
		wantRead(t, text, p, api.OK)
		wantLoad(t, kept, p, api.OK)
	}
}

// TestEmptyLists: W5: a nil list is as an empty one.
func TestEmptyLists(t *testing.T) {
	p := base()
	q := copied(p)
	for i := range q.Insts {
		q.Insts[i].Ranges = append([]api.Range{}, q.Insts[i].Ranges...)
	}
	wantPrint(t, q, printed(t, p), api.OK)
	wantBytes(t, q, bytesOf(t, p), api.OK)
	wantPrint(t, api.Program{Insts: []api.Inst{}, Caps: 2}, "", api.ErrProg)
	wantNoBytes(t, []byte{})
	wantNoBytes(t, make([]byte, 0, 10))
}

// TestAtOneTime: W2: many calls at one time answer what each answers alone, the arguments in common.
func TestAtOneTime(t *testing.T) {
	var group sync.WaitGroup
	for _, p := range []api.Program{letter(), base(), ofPattern(t, `(?:(a??)(b??))+c|[^x-z]`)} {
		text, b := modelText(p), modelBytes(p)
		for range 4 {
			group.Go(func() {
				for range 50 {
					wantPrint(t, p, text, api.OK)
					wantBytes(t, p, b, api.OK)
					wantRead(t, text, p, api.OK)
					wantLoad(t, b, p, api.OK)
					wantNoText(t, text+"0")
					wantNoBytes(t, b[:len(b)-1])
				}
			})
		}
	}
	group.Wait()
}

// TestAfterBroken: W2: what was broken leaves nothing behind.
func TestAfterBroken(t *testing.T) {
	text, b := modelText(base()), modelBytes(base())
	for range 3 {
		wantNoText(t, strings.TrimSuffix(text, "0\n"))
		wantRead(t, text, base(), api.OK)
		wantNoBytes(t, b[1:])
		wantLoad(t, b, base(), api.OK)
	}
}
