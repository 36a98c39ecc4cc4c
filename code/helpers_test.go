package code_test

import (
	"bytes"
	"fmt"
	"hash/crc32"
	"slices"
	"testing"

	"heron/api"
	"heron/code"
	"heron/prog"
	"heron/syntax"
)

// rangesOf are ranges, told by pairs of runes.
func rangesOf(l ...int) []api.Range {
	var ranges []api.Range
	for i := 0; i < len(l); i += 2 {
		ranges = append(ranges, api.Range{Lo: l[i], Hi: l[i+1]})
	}
	return ranges
}

// manyRanges are so many ranges of one rune each, from a rune on; a class while they are not too many.
func manyRanges(count, from int) []api.Range {
	var ranges []api.Range
	for i := range count {
		ranges = append(ranges, api.Range{Lo: from + 2*i, Hi: from + 2*i})
	}
	return ranges
}

// many are so many things, each the same.
func many[T any](count int, one T) []T { return slices.Repeat([]T{one}, count) }

// The instructions.

func ifRune(x int, ranges ...api.Range) api.Inst {
	return api.Inst{Op: api.OpRune, X: x, Ranges: ranges}
}

func either(x, y int) api.Inst { return api.Inst{Op: api.OpAlt, X: x, Y: y} }

func note(arg, x int) api.Inst { return api.Inst{Op: api.OpCap, Arg: arg, X: x} }

func ifHolds(arg, x int) api.Inst { return api.Inst{Op: api.OpAssert, Arg: arg, X: x} }

func match(arg int) api.Inst { return api.Inst{Op: api.OpMatch, Arg: arg} }

func fail() api.Inst { return api.Inst{Op: api.OpFail} }

func goOn(x int) api.Inst { return api.Inst{Op: api.OpNop, X: x} }

// whole is a program that begins with its first instruction.
func whole(caps int, insts ...api.Inst) api.Program { return api.Program{Insts: insts, Caps: caps} }

// letter is the chapter's example P.
func letter() api.Program {
	return whole(2, note(0, 1), ifRune(2, rangesOf('a', 'a')...), note(1, 3), match(0))
}

// base is a program that may be, of every operation, with 6 captures and 8 instructions.
func base() api.Program {
	return api.Program{Start: 2, Caps: 6, Insts: []api.Inst{
		ifRune(1, rangesOf('a', 'c', 'e', 'e')...), either(7, 0), note(5, 3), ifHolds(api.EndLine, 4), match(99), fail(), goOn(2), match(0),
	}}
}

// great is a program that may be, in which every field is as great as it can be somewhere.
func great() api.Program {
	last := api.MaxInsts - 1
	p := api.Program{Start: last, Caps: 2*api.MaxGroups + 2, Insts: many(api.MaxInsts, goOn(last))}
	copy(p.Insts, []api.Inst{
		ifRune(last, rangesOf(0, 0xD7FF, 0xE000, api.MaxRune)...), ifRune(0, manyRanges(api.MaxRanges, 0x10000)...), either(last, last), either(0, last), either(last, 0),
		note(p.Caps-1, last), ifHolds(api.NoWordEdge, last), match(api.MaxSet - 1), fail(), ifRune(127, rangesOf(127, 128, 16383, 16384)...), ifRune(128, rangesOf(api.MaxRune, api.MaxRune)...),
	})
	return p
}

// ofPattern is the program of a pattern that is not to be refused.
func ofPattern(t testing.TB, pattern string) api.Program {
	t.Helper()
	tree, err := syntax.Parse(pattern)
	if err != nil {
		t.Fatalf("%q: %v", pattern, err)
	}
	p, errno := prog.Compile(tree)
	if errno != api.OK {
		t.Fatalf("%q: %d", pattern, errno)
	}
	return p
}

// some are programs that may be, small and great.
func some(t testing.TB) []api.Program {
	l := []api.Program{letter(), base(), great(), whole(2, match(0)), whole(1002, fail()), whole(2, many(api.MaxInsts, fail())...)}
	for _, pattern := range []string{``, `a|b|`, `a*?`, `(a)+`, `(?:(a??)(b??))+c`, `^[^a-c]\b(?P<x>\w|.)$`, `(a{0,3}|b)^{2,}?`, `[^\x{0}-\x{10FFFF}]`, `(a{1,50}){1,50}`} {
		l = append(l, ofPattern(t, pattern))
	}
	return l
}

// sameInst tells whether two instructions are the same; a nil list is as an empty one.
func sameInst(a, b api.Inst) bool {
	return a.Op == b.Op && a.X == b.X && a.Y == b.Y && a.Arg == b.Arg && slices.Equal(a.Ranges, b.Ranges)
}

// same tells whether two programs are.
func same(a, b api.Program) bool {
	return a.Start == b.Start && a.Caps == b.Caps && slices.EqualFunc(a.Insts, b.Insts, sameInst)
}

// cut is a text of which a failing test tells no more than the beginning.
func cut(s string) string {
	if len(s) > 400 {
		return s[:400] + ".."
	}
	return s
}

// shown is a program as it is told by a failing test.
func shown(p api.Program) string {
	return cut(fmt.Sprintf("%v; Start %d; Caps %d; %d instructions", p.Insts[:min(len(p.Insts), 20)], p.Start, p.Caps, len(p.Insts)))
}

// shownBytes are some bytes as they are told by a failing test.
func shownBytes(b []byte) string { return fmt.Sprintf("%d of %d", b[:min(len(b), 60)], len(b)) }

// sealed are bytes with their sum behind them.
func sealed(b []byte) []byte {
	sum := crc32.ChecksumIEEE(b)
	return append(slices.Clone(b), byte(sum), byte(sum>>8), byte(sum>>16), byte(sum>>24))
}

// ofHead are bytes behind the first four, with the sum of them all behind them.
func ofHead(b ...byte) []byte { return sealed(append([]byte{72, 82, 80, 71}, b...)) }

// printed is the text of a program that is not to be refused.
func printed(t testing.TB, p api.Program) string {
	t.Helper()
	text, errno := code.Print(p)
	if errno != api.OK {
		t.Fatalf("%s: %d", shown(p), errno)
	}
	return text
}

// bytesOf are the bytes of a program that is not to be refused.
func bytesOf(t testing.TB, p api.Program) []byte {
	t.Helper()
	b, errno := code.Bytes(p)
	if errno != api.OK {
		t.Fatalf("%s: %d", shown(p), errno)
	}
	return b
}

// wantPrint fails, if Print does not answer that.
func wantPrint(t *testing.T, p api.Program, want string, wantErrno api.Errno) {
	t.Helper()
	text, errno := code.Print(p)
	if text != want || errno != wantErrno {
		t.Errorf("Print of %s: %q (%d bytes), %d; want %q (%d bytes), %d", shown(p), cut(text), len(text), errno, cut(want), len(want), wantErrno)
	}
}

// wantBytes fails, if Bytes does not answer that.
func wantBytes(t *testing.T, p api.Program, want []byte, wantErrno api.Errno) {
	t.Helper()
	b, errno := code.Bytes(p)
	if !bytes.Equal(b, want) || errno != wantErrno {
		t.Errorf("Bytes of %s: %s, %d; want %s, %d", shown(p), shownBytes(b), errno, shownBytes(want), wantErrno)
	}
}

// wantRead fails, if Read does not answer that.
func wantRead(t *testing.T, text string, want api.Program, wantErrno api.Errno) {
	t.Helper()
	p, errno := code.Read(text)
	if !same(p, want) || errno != wantErrno {
		t.Errorf("Read of %q (%d bytes): %s, %d; want %s, %d", cut(text), len(text), shown(p), errno, shown(want), wantErrno)
	}
}

// wantLoad fails, if Load does not answer that.
func wantLoad(t *testing.T, b []byte, want api.Program, wantErrno api.Errno) {
	t.Helper()
	p, errno := code.Load(b)
	if !same(p, want) || errno != wantErrno {
		t.Errorf("Load of %s: %s, %d; want %s, %d", shownBytes(b), shown(p), errno, shown(want), wantErrno)
	}
}

// wantNoText fails, if Read takes a text.
func wantNoText(t *testing.T, text string) {
	t.Helper()
	wantRead(t, text, api.Program{}, api.ErrCodeText)
}

// wantNoBytes fails, if Load takes bytes.
func wantNoBytes(t *testing.T, b []byte) {
	t.Helper()
	wantLoad(t, b, api.Program{}, api.ErrCodeBytes)
}

// wantThereAndBack fails, if a program is not what is read of its text and its bytes.
func wantThereAndBack(t *testing.T, p api.Program) {
	t.Helper()
	text, b := printed(t, p), bytesOf(t, p)
	wantRead(t, text, p, api.OK)
	wantLoad(t, b, p, api.OK)
	read, _ := code.Read(text)
	loaded, _ := code.Load(b)
	wantPrint(t, read, text, api.OK)
	wantBytes(t, loaded, b, api.OK)
}
