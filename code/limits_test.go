package code_test

import (
	"runtime"
	"strings"
	"testing"

	"heron/api"
	"heron/code"
)

// ofTextLength is a program whose text has so many bytes, and that text: great instructions, then small ones for the rest.
func ofTextLength(t *testing.T, length int) (api.Program, string) {
	t.Helper()
	class := ifRune(0, manyRanges(api.MaxRanges, 0x10000)...)
	p := whole(2, match(0))
	rest := length - len(modelText(p))
	for size := len(modelText(whole(2, class))) - len(modelText(whole(2))); rest > size+100; rest -= size {
		p.Insts = append(p.Insts, class)
	}
	// Lines of 7 and of 8 bytes.
	for ; rest%7 > 0; rest -= 8 {
		p.Insts = append(p.Insts, goOn(0))
	}
	p.Insts = append(p.Insts, many(rest/7, fail())...)
	text := modelText(p)
	if len(text) != length || len(p.Insts) > api.MaxInsts {
		t.Fatalf("%d bytes, %d instructions; want %d bytes", len(text), len(p.Insts), length)
	}
	return p, text
}

// ofBytesLength is one that has so many bytes itself, and these.
func ofBytesLength(t *testing.T, length int) (api.Program, []byte) {
	t.Helper()
	class := ifRune(0, manyRanges(api.MaxRanges, 0x10000)...)
	p := whole(2, match(0))
	rest := length - len(modelBytes(p)) - 2 // the count of instructions will have two bytes more
	for size := len(modelBytes(whole(2, class))) - len(modelBytes(whole(2))); rest > size; rest -= size {
		p.Insts = append(p.Insts, class)
	}
	p.Insts = append(p.Insts, many(rest, fail())...)
	b := modelBytes(p)
	if len(b) != length || len(p.Insts) > api.MaxInsts {
		t.Fatalf("%d bytes, %d instructions; want %d bytes", len(b), len(p.Insts), length)
	}
	return p, b
}

// TestLongestText: P10.1, P10.2: a text of MaxCodeText bytes, and one that would have one more.
func TestLongestText(t *testing.T) {
	for _, less := range []int{0, 1} {
		p, text := ofTextLength(t, api.MaxCodeText-less)
		wantPrint(t, p, text, api.OK)
		wantRead(t, text, p, api.OK)
	}
	for _, more := range []int{1, 2, 1000} {
		p, text := ofTextLength(t, api.MaxCodeText+more)
		wantPrint(t, p, "", api.ErrBig)
		wantRead(t, text, api.Program{}, api.ErrLong)
		// Its bytes are fewer.
		if b, errno := code.Bytes(p); errno != api.OK || len(b) >= len(text) {
			t.Errorf("%d bytes, %d", len(b), errno)
		}
		p.Insts[len(p.Insts)-1].X = 1
		wantPrint(t, p, "", api.ErrProg)
	}
}

// TestLongestBytes: P10.3: MaxCodeText bytes, and a program that would have one more, or the sum more.
func TestLongestBytes(t *testing.T) {
	for _, less := range []int{0, 1} {
		p, b := ofBytesLength(t, api.MaxCodeText-less)
		wantBytes(t, p, b, api.OK)
		wantLoad(t, b, p, api.OK)
		wantPrint(t, p, "", api.ErrBig)
	}
	for _, more := range []int{1, 4, 5, 1000} {
		p, b := ofBytesLength(t, api.MaxCodeText+more)
		wantBytes(t, p, nil, api.ErrBig)
		wantLoad(t, b, api.Program{}, api.ErrLong)
		p.Insts[len(p.Insts)-1].X = 1
		wantBytes(t, p, nil, api.ErrProg)
	}
}

// TestLongTexts: P10.2, W4: a text is as long as it may be, and one byte longer, be it a program's or none's.
func TestLongTexts(t *testing.T) {
	text := modelText(base())
	pad := strings.Repeat(" ", api.MaxCodeText-len(text))
	for _, long := range []string{text + pad, pad + text, pad[:1000] + text + pad[1000:]} {
		wantRead(t, long, base(), api.OK)
		wantRead(t, long+" ", api.Program{}, api.ErrLong)
		wantRead(t, "\n"+long, api.Program{}, api.ErrLong)
	}
	for _, one := range []string{" ", "0", "caps ", "x", "\x00", "caps 2 start 0 ", "fail "} {
		long := strings.Repeat(one, api.MaxCodeText/len(one)+1)
		wantNoText(t, long[:api.MaxCodeText])
		wantRead(t, long[:min(len(long), api.MaxCodeText)]+"0", api.Program{}, api.ErrLong)
	}
	for _, one := range []string{"fail ", "0 ", "9 ", "nop 0 ", "match 0\n", "rune 0 1 0 0 ", "rune 0 5000 ", "rune 0 2 1 1 "} {
		long := "caps 2 start 0 " + strings.Repeat(one, api.MaxCodeText/len(one))
		wantNoText(t, long[:api.MaxCodeText])
	}
}

// TestLongBytes: P10.3, W4: bytes as many as may be, and one more.
func TestLongBytes(t *testing.T) {
	for _, one := range []byte{0, 1, 6, 255} {
		long := many(api.MaxCodeText+1, one)
		wantNoBytes(t, long[:api.MaxCodeText])
		wantLoad(t, long, api.Program{}, api.ErrLong)
		inner := long[:api.MaxCodeText-8-6]
		wantNoBytes(t, ofHead(inner...))
		// All of them of right form, but more instructions than may be, or a class of more ranges.
		wantNoBytes(t, ofHead(append([]byte{2, 0, 160, 156, 1}, inner...)...))
		wantNoBytes(t, ofHead(append([]byte{2, 0, 1, 1, 0, 127}, inner...)...))
	}
	b := modelBytes(base())
	wantLoad(t, append(b, make([]byte, api.MaxCodeText-len(b)+1)...), api.Program{}, api.ErrLong)
	wantNoBytes(t, append(b, make([]byte, api.MaxCodeText-len(b))...))
}

// allocated is how much memory a function asks for.
func allocated(f func()) uint64 {
	var before, after runtime.MemStats
	runtime.ReadMemStats(&before)
	f()
	runtime.ReadMemStats(&after)
	return after.TotalAlloc - before.TotalAlloc
}

// TestRefusedIsNotMade: what is refused takes little memory: programs that have one great list many times, and texts and bytes that claim much and have little.
func TestRefusedIsNotMade(t *testing.T) {
	p := whole(2, many(api.MaxInsts, ifRune(0, manyRanges(api.MaxRanges, 0x10000)...))...)
	if used := allocated(func() {
		wantPrint(t, p, "", api.ErrBig)
		wantBytes(t, p, nil, api.ErrBig)
	}); used > 120<<20 {
		t.Errorf("%d bytes for a program that is refused", used)
	}
	for _, text := range []string{"caps 2 start 0 rune 0 999999999 1 1", "caps 2 start 0 rune 0 5001", "caps 2 start 999999999 match 0"} {
		if used := allocated(func() { wantNoText(t, text) }); used > 1<<20 {
			t.Errorf("%q: %d bytes for a text that is refused", text, used)
		}
	}
	long := "caps 2 start 0 " + strings.Repeat("fail ", 1600000)
	if used := allocated(func() { wantNoText(t, long) }); used > 20<<20 {
		t.Errorf("%d bytes for a text of too many instructions", used)
	}
	for _, b := range [][]byte{ofHead(2, 0, 255, 255, 127, 6), ofHead(2, 0, 161, 156, 1, 6), ofHead(2, 0, 1, 1, 0, 255, 255, 127, 1, 1), ofHead(2, 0, 255, 255, 255, 255, 7, 6)} {
		if used := allocated(func() { wantNoBytes(t, b) }); used > 1<<20 {
			t.Errorf("%d: %d bytes for bytes that are refused", b, used)
		}
	}
}

// TestNumbersOfErrors: the numbers of the errors that the chapter names.
func TestNumbersOfErrors(t *testing.T) {
	_, errno := code.Read(strings.Repeat(" ", api.MaxCodeText+1))
	_, none := code.Read("")
	_, broken := code.Load(nil)
	_, wrong := code.Print(api.Program{})
	p, _ := ofTextLength(t, api.MaxCodeText+1)
	_, big := code.Print(p)
	if errno != 2 || none != 100 || broken != 101 || wrong != 90 || big != 3 {
		t.Errorf("%d %d %d %d %d", errno, none, broken, wrong, big)
	}
}
