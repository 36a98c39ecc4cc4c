package prog_test

import (
	"slices"
	"testing"

	"heron/api"
)

// least and most are the edges of all numbers; far is one whose lower half is zero.
const (
	most  = int(^uint(0) >> 1)
	least = -most - 1
	far   = most &^ (1<<16 - 1) &^ (most >> 31)
)

// base is a program that may be, of every operation, with 6 captures and 8 instructions.
func base() api.Program {
	return api.Program{Start: 2, Caps: 6, Insts: []api.Inst{
		ifRune(1, rangesOf('a', 'c', 'e', 'e')...), either(7, 0), note(5, 3), ifHolds(api.EndLine, 4), match(99), fail(), goOn(2), match(0),
	}}
}

// with is the base with another instruction in the place of the one of that Op.
func with(i api.Inst) api.Program {
	p := base()
	at := slices.IndexFunc(p.Insts, func(j api.Inst) bool { return j.Op == i.Op })
	p.Insts[at] = i
	return p
}

// ofOp is the base's instruction of an Op.
func ofOp(op int) api.Inst {
	p := base()
	return p.Insts[slices.IndexFunc(p.Insts, func(i api.Inst) bool { return i.Op == op })]
}

// wantNumbers fails, if Check does not take just those of some numbers that are from 0 on and below count; field is where one stands.
func wantNumbers(t *testing.T, what string, op, count int, field func(*api.Inst) *int) {
	t.Helper()
	for _, n := range []int{least, least + 1, -1 << 31, -2, -1, 0, 1, 2, 3, 5, 6, 7, 8, 9, 16, 98, 99, 100, 101, 20000, 1 << 30, far, far + 1, most - 1, most} {
		i, want := ofOp(op), api.ErrProg
		*field(&i) = n
		if 0 <= n && n < count {
			want = api.OK
		}
		wantCheck(t, what, with(i), want)
	}
}

// TestFields: P9.2: each field of each Op wrong by itself, numbers at both edges.
func TestFields(t *testing.T) {
	x := func(i *api.Inst) *int { return &i.X }
	y := func(i *api.Inst) *int { return &i.Y }
	arg := func(i *api.Inst) *int { return &i.Arg }
	wantCheck(t, "as it is", base(), api.OK)
	for _, f := range []struct {
		what       string
		op         int
		x, y, arg_ int // so many from 0 on may be; 1: zero alone
	}{
		{"OpRune", api.OpRune, 8, 1, 1},
		{"OpAlt", api.OpAlt, 8, 8, 1},
		{"OpCap", api.OpCap, 8, 1, 6},
		{"OpMatch", api.OpMatch, 1, 1, 100},
		{"OpFail", api.OpFail, 1, 1, 1},
		{"OpNop", api.OpNop, 8, 1, 1},
	} {
		wantNumbers(t, f.what+" X", f.op, f.x, x)
		wantNumbers(t, f.what+" Y", f.op, f.y, y)
		wantNumbers(t, f.what+" Arg", f.op, f.arg_, arg)
	}
	wantNumbers(t, "OpAssert X", api.OpAssert, 8, x)
	wantNumbers(t, "OpAssert Y", api.OpAssert, 1, y)
	for n := -70; n <= 140; n++ {
		i, want := ofOp(api.OpAssert), api.ErrProg
		i.Arg = n
		if slices.Contains([]int{1, 2, 4, 8, 16, 32}, n) {
			want = api.OK
		}
		wantCheck(t, "OpAssert Arg", with(i), want)
	}
	for _, n := range []int{least, most, 1 << 30, far, far + 1, far + 32} {
		i := ofOp(api.OpAssert)
		i.Arg = n
		wantCheck(t, "OpAssert Arg", with(i), api.ErrProg)
	}
}

// TestRanges: P9.2: ranges of an OpRune, and of what has none.
func TestRanges(t *testing.T) {
	for _, x := range []struct {
		ranges []api.Range
		want   api.Errno
	}{
		{nil, api.ErrProg}, {[]api.Range{}, api.ErrProg},
		{rangesOf('a', 'a'), api.OK}, {rangesOf(0, 0), api.OK}, {rangesOf(api.MaxRune, api.MaxRune), api.OK}, {rangesOf(0, 0xD7FF, 0xE000, api.MaxRune), api.OK},
		{rangesOf('b', 'a'), api.ErrProg}, {rangesOf(-1, 'a'), api.ErrProg}, {rangesOf('a', api.MaxRune+1), api.ErrProg}, {rangesOf(0, api.MaxRune), api.ErrProg},
		{rangesOf(0xD800, 0xD800), api.ErrProg}, {rangesOf(0xDFFF, 0xE000), api.ErrProg}, {rangesOf(0xD700, 0xD800), api.ErrProg},
		{rangesOf('a', 'b', 'c', 'd'), api.ErrProg}, {rangesOf('a', 'b', 'd', 'd'), api.OK}, {rangesOf('d', 'd', 'a', 'b'), api.ErrProg}, {rangesOf('a', 'c', 'b', 'd'), api.ErrProg},
		{rangesOf('a', 'a', least, most), api.ErrProg}, {rangesOf('a', most), api.ErrProg}, {rangesOf(least, 'a'), api.ErrProg},
		{manyRanges(api.MaxRanges), api.OK}, {manyRanges(api.MaxRanges + 1), api.ErrProg},
	} {
		wantCheck(t, "OpRune Ranges", with(ifRune(1, x.ranges...)), x.want)
	}
	for _, op := range []int{api.OpAlt, api.OpCap, api.OpAssert, api.OpMatch, api.OpFail, api.OpNop} {
		i := ofOp(op)
		i.Ranges = rangesOf('a', 'a')
		wantCheck(t, "ranges of what has none", with(i), api.ErrProg)
		i.Ranges = []api.Range{{}}
		wantCheck(t, "a zero range of what has none", with(i), api.ErrProg)
		i.Ranges = []api.Range{}
		wantCheck(t, "an empty list", with(i), api.OK)
		i.Ranges = rangesOf('a', 'a')[:0]
		wantCheck(t, "an empty list with room", with(i), api.OK)
	}
}

// TestOps: P9.2: operations that there are, and others.
func TestOps(t *testing.T) {
	for op := -3; op <= 300; op++ {
		want := api.ErrProg
		// With all other fields zero, these may be.
		if slices.Contains([]int{api.OpAlt, api.OpCap, api.OpMatch, api.OpFail, api.OpNop}, op) {
			want = api.OK
		}
		wantCheck(t, "an Op", whole(2, api.Inst{Op: op}), want)
	}
	for _, op := range []int{least, most, far + api.OpNop, 1<<8 + api.OpNop, -api.OpNop} {
		wantCheck(t, "an Op", whole(2, api.Inst{Op: op}), api.ErrProg)
	}
}

// TestWholes: P9.2: Start, Caps, how many instructions.
func TestWholes(t *testing.T) {
	for _, n := range []int{least, -1, 0, 1, 6, 7, 8, 9, most} {
		p, want := base(), api.ErrProg
		p.Start = n
		if 0 <= n && n < 8 {
			want = api.OK
		}
		wantCheck(t, "Start", p, want)
	}
	for _, n := range []int{least, least + 1, -4, -2, -1, 0, 1, 2, 3, 4, 5, 6, 7, 500, 999, 1000, 1001, 1002, 1003, 1004, 1006, 2000, most - 1, most} {
		want := api.ErrProg
		if 2 <= n && n <= 1002 && n%2 == 0 {
			want = api.OK
		}
		wantCheck(t, "Caps", whole(n, match(0)), want)
	}
	wantCheck(t, "none", api.Program{}, api.ErrProg)
	wantCheck(t, "none but captures", whole(2), api.ErrProg)
	wantCheck(t, "an empty list", api.Program{Insts: []api.Inst{}, Caps: 2}, api.ErrProg)
	wantCheck(t, "one", whole(2, match(0)), api.OK)
	wantCheck(t, "most", ofLength(api.MaxInsts), api.OK)
	wantCheck(t, "one more", ofLength(api.MaxInsts+1), api.ErrProg)
	p := ofLength(api.MaxInsts)
	p.Start = api.MaxInsts - 1
	wantCheck(t, "the last one first", p, api.OK)
	p.Start = api.MaxInsts
	wantCheck(t, "beyond the last one", p, api.ErrProg)
	p = ofLength(api.MaxInsts)
	p.Insts[api.MaxInsts-1] = either(api.MaxInsts-1, api.MaxInsts)
	wantCheck(t, "the last one wrong", p, api.ErrProg)
	p.Insts[api.MaxInsts-1] = either(api.MaxInsts-1, api.MaxInsts-1)
	wantCheck(t, "the last one right", p, api.OK)
	for i := range base().Insts {
		p := base()
		p.Insts[i].Op = 0
		wantCheck(t, "one wrong, wherever", p, api.ErrProg)
	}
}

// TestCapsOfNotes: P9.2: which captures may be noted hangs on how many there are.
func TestCapsOfNotes(t *testing.T) {
	for _, caps := range []int{2, 4, 6, 1000, 1002} {
		wantCheck(t, "the last capture", whole(caps, note(caps-1, 0)), api.OK)
		wantCheck(t, "one more", whole(caps, note(caps, 0)), api.ErrProg)
		wantCheck(t, "one below", whole(caps, note(-1, 0)), api.ErrProg)
	}
}
