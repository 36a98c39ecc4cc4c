package code_test

import (
	"slices"
	"strings"
	"testing"

	"heron/api"
	"heron/code"
)

// example: a program, its text, its bytes without the sum.
type example struct {
	program api.Program
	text    string
	bytes   []byte
}

// examples are the chapter's.
func examples() []example {
	return []example{
		{letter(), "caps 2 start 0\n  cap 0 1\n  rune 2 1 97 97\n  cap 1 3\n  match 0\n", []byte{72, 82, 80, 71, 2, 0, 4, 3, 0, 1, 1, 2, 1, 97, 97, 3, 1, 3, 5, 0}},
		{whole(2, match(0)), "caps 2 start 0\n  match 0\n", []byte{72, 82, 80, 71, 2, 0, 1, 5, 0}},
	}
}

// noTexts are the chapter's.
func noTexts() []string {
	return []string{"caps 2 start 0 match 00", "caps 2 start 0 match 0 0", "caps 2 start 1 match 0", ""}
}

// TestExamples: P10.1, P10.2, P10.3: what the chapter's examples say.
func TestExamples(t *testing.T) {
	for _, x := range examples() {
		wantPrint(t, x.program, x.text, api.OK)
		wantBytes(t, x.program, sealed(x.bytes), api.OK)
		wantRead(t, x.text, x.program, api.OK)
		wantRead(t, strings.ReplaceAll(x.text, " ", "\t"), x.program, api.OK)
		wantLoad(t, sealed(x.bytes), x.program, api.OK)
		wantNoBytes(t, append(sealed(x.bytes), 0))
	}
	for _, text := range noTexts() {
		wantNoText(t, text)
	}
	wantRead(t, "caps 2 start 0 match 0", whole(2, match(0)), api.OK)
	wantNoBytes(t, nil)
	wantNoBytes(t, []byte{72, 82, 80, 71})
	wantPrint(t, whole(2), "", api.ErrProg)
}

// laid: an instruction of a program of three with 1002 captures, its line and its bytes.
type laid struct {
	inst  api.Inst
	line  string
	bytes []byte
}

// operations are each operation with its fields, no two the same, and each at the edges.
func operations() []laid {
	return []laid{
		{ifRune(1, rangesOf('a', 'c')...), "rune 1 1 97 99", []byte{1, 1, 1, 97, 99}},
		{ifRune(2, rangesOf('a', 'c', 'e', 'f', 'z', 'z')...), "rune 2 3 97 99 101 102 122 122", []byte{1, 2, 3, 97, 99, 101, 102, 122, 122}},
		{ifRune(0, rangesOf(0, 0)...), "rune 0 1 0 0", []byte{1, 0, 1, 0, 0}},
		{ifRune(0, rangesOf(127, 128)...), "rune 0 1 127 128", []byte{1, 0, 1, 127, 128, 1}},
		{ifRune(0, rangesOf(129, 255)...), "rune 0 1 129 255", []byte{1, 0, 1, 129, 1, 255, 1}},
		{ifRune(0, rangesOf(256, 16383)...), "rune 0 1 256 16383", []byte{1, 0, 1, 128, 2, 255, 127}},
		{ifRune(0, rangesOf(16384, 16385)...), "rune 0 1 16384 16385", []byte{1, 0, 1, 128, 128, 1, 129, 128, 1}},
		{ifRune(0, rangesOf(0, 0xD7FF, 0xE000, api.MaxRune)...), "rune 0 2 0 55295 57344 1114111", []byte{1, 0, 2, 0, 255, 175, 3, 128, 192, 3, 255, 255, 67}},
		{either(1, 2), "alt 1 2", []byte{2, 1, 2}},
		{either(2, 0), "alt 2 0", []byte{2, 2, 0}},
		{note(7, 2), "cap 7 2", []byte{3, 7, 2}},
		{note(0, 1), "cap 0 1", []byte{3, 0, 1}},
		{note(1001, 0), "cap 1001 0", []byte{3, 233, 7, 0}},
		{ifHolds(api.BeginText, 2), "assert 1 2", []byte{4, 1, 2}},
		{ifHolds(api.EndText, 0), "assert 2 0", []byte{4, 2, 0}},
		{ifHolds(api.BeginLine, 1), "assert 4 1", []byte{4, 4, 1}},
		{ifHolds(api.EndLine, 1), "assert 8 1", []byte{4, 8, 1}},
		{ifHolds(api.WordEdge, 2), "assert 16 2", []byte{4, 16, 2}},
		{ifHolds(api.NoWordEdge, 0), "assert 32 0", []byte{4, 32, 0}},
		{match(0), "match 0", []byte{5, 0}},
		{match(99), "match 99", []byte{5, 99}},
		{fail(), "fail", []byte{6}},
		{goOn(2), "nop 2", []byte{7, 2}},
		{goOn(0), "nop 0", []byte{7, 0}},
	}
}

// TestOperations: P10.1, P10.2, P10.3, P10.5: each operation by itself, with its fields in their order.
func TestOperations(t *testing.T) {
	for _, x := range operations() {
		p := api.Program{Start: 1, Caps: 1002, Insts: []api.Inst{fail(), x.inst, fail()}}
		text := "caps 1002 start 1\n  fail\n  " + x.line + "\n  fail\n"
		b := ofHead(slices.Concat([]byte{234, 7, 1, 3, 6}, x.bytes, []byte{6})...)
		wantPrint(t, p, text, api.OK)
		wantRead(t, text, p, api.OK)
		wantBytes(t, p, b, api.OK)
		wantLoad(t, b, p, api.OK)
	}
}

// TestGreatPrograms: P10.1, P10.2, P10.3, P10.5: programs in which all numbers are as great as they can be, and others, against the model.
func TestGreatPrograms(t *testing.T) {
	for _, p := range some(t) {
		wantPrint(t, p, modelText(p), api.OK)
		wantBytes(t, p, modelBytes(p), api.OK)
		wantThereAndBack(t, p)
	}
}

// TestBlanks: P10.2, P10.5: each of the four, ahead, between, behind and many; no other byte is one.
func TestBlanks(t *testing.T) {
	p := base()
	words := strings.Fields(modelText(p))
	for _, blank := range []string{" ", "\t", "\n", "\r", "\r\n", " \t\n\r \t\n\r", strings.Repeat("\n", 1000), strings.Repeat("\r\t ", 77)} {
		for _, text := range []string{
			strings.Join(words, blank),
			blank + strings.Join(words, " "),
			strings.Join(words, " ") + blank,
			blank + strings.Join(words, blank) + blank,
		} {
			wantRead(t, text, p, api.OK)
		}
		for i := 1; i < len(words); i++ {
			wantRead(t, strings.Join(words[:i], " ")+blank+strings.Join(words[i:], " "), p, api.OK)
			wantNoText(t, strings.Join(words[:i], " ")+strings.Join(words[i:], " "))
		}
		wantNoText(t, blank)
	}
	for b := range 256 {
		one := string([]byte{byte(b)})
		want, errno := whole(2, match(0)), api.OK
		if !strings.Contains(" \t\n\r", one) {
			want, errno = api.Program{}, api.ErrCodeText
		}
		for _, text := range []string{one + "caps 2 start 0 match 0", "caps" + one + "2 start 0 match 0", "caps 2" + one + "start 0 match 0", "caps 2 start 0 match" + one + "0", "caps 2 start 0 match 0" + one, "caps 2 start 0 match 0 " + one, "caps 2 " + one + " start 0 match 0"} {
			wantRead(t, text, want, errno)
		}
	}
	for _, blank := range []string{"\u00A0", "\u0085", "\u2003", "\u2028", "\u3000", "\uFEFF", "\v", "\f", "\x00", "\\n", ",", ";", "//", "#"} {
		wantNoText(t, strings.Join(words, blank))
		wantNoText(t, blank+strings.Join(words, " "))
		wantNoText(t, strings.Join(words, " ")+blank)
		wantNoText(t, strings.Join(words, " "+blank+" "))
	}
}

// TestDigits: P10.2: numbers with noughts ahead, of nine digits and more, and what is none.
func TestDigits(t *testing.T) {
	at := func(caps, start, lo, hi string) string {
		return "caps " + caps + " start " + start + " match 0 rune 0 1 " + lo + " " + hi
	}
	p := whole(4, match(0), ifRune(0, rangesOf(7, 12)...))
	wantRead(t, at("4", "0", "7", "12"), p, api.OK)
	p.Start = 1
	wantRead(t, at("4", "1", "7", "12"), p, api.OK)
	for _, form := range []string{"0%s", "00%s", "00000000%s", "0000000000000000000%s", "+%s", "-%s", "%s.", "%s.0", "%se0", "0x%s", "0d%s", "%s_", "_%s", "0_%s", "'%s'", "%s,", "%s\x00", "\x00%s", "%sa", " %s x ", "%s %s", "#%s", "-0%s", "０%s", "١%s", "%s٠"} {
		for i := range 4 {
			l := []string{"4", "1", "7", "12"}
			l[i] = strings.ReplaceAll(form, "%s", l[i])
			wantNoText(t, at(l[0], l[1], l[2], l[3]))
		}
	}
	// Digits of nine and ten, such as are the number again in a kind that is too narrow, and others.
	for _, far := range []string{"100000000", "999999999", "1000000000", "9999999999", "1114112", "99999999", "4294967296", "8589934592", "18446744073709551616", "36893488147419103232", "2147483648", "65536000000", strings.Repeat("9", 100), strings.Repeat("9", 100000)} {
		for i := range 4 {
			l := []string{"4", "1", "7", "12"}
			l[i] = far
			wantNoText(t, at(l[0], l[1], l[2], l[3]))
		}
	}
	for i, turned := range [][]string{{"4294967300", "18446744073709551620"}, {"4294967297", "18446744073709551617"}, {"4294967303", "18446744073709551623"}, {"4294967308", "18446744073709551628"}} {
		for _, far := range turned {
			l := []string{"4", "1", "7", "12"}
			l[i] = far
			wantNoText(t, at(l[0], l[1], l[2], l[3]))
		}
	}
	for _, nought := range []string{"00", "000000000", "-0", "+0", "0x0", "0.", "o", "O", ""} {
		wantNoText(t, "caps 2 start "+nought+" match 0")
		wantNoText(t, "caps 2 start 0 match "+nought)
		wantNoText(t, "caps 2 start 0 nop "+nought)
	}
	// Every byte in the place of a digit.
	for b := range 256 {
		want, errno := whole(2, match(b-'0')), api.OK
		if b < '0' || b > '9' {
			want, errno = api.Program{}, api.ErrCodeText
		}
		wantRead(t, "caps 2 start 0 match "+string([]byte{byte(b)}), want, errno)
		want, errno = whole(2, match(10*(b-'0')+5)), api.OK
		if b < '1' || b > '9' {
			want, errno = api.Program{}, api.ErrCodeText
		}
		// A blank leaves a 5 by itself.
		if strings.Contains(" \t\n\r", string([]byte{byte(b)})) {
			want, errno = whole(2, match(5)), api.OK
		}
		wantRead(t, "caps 2 start 0 match "+string([]byte{byte(b)})+"5", want, errno)
	}
}

// TestWords: P10.2: words that are none, each in the place of each one; words that are missing, or stand twice.
func TestWords(t *testing.T) {
	words := strings.Fields(modelText(base()))
	none := []string{"Caps", "CAPS", "cap s", "capss", "start:", "Start", "Rune", "RUNE", "runes", "run", "char", "Match", "matc", "match0", "ALT", "alts", "fails", "Fail", "nope", "no", "NOP", "noop", "empty", "assertion", "x", "ｒune", "\x00", "\xff", "é", "1", "7", "-1", "0"}
	for i, w := range words {
		for _, other := range append(none, strings.ToUpper(w), w+w, w+"x", "x"+w, w+"\x00", w[:len(w)-1], w[1:]) {
			l := slices.Clone(words)
			l[i] = other
			text := strings.Join(l, " ")
			want, ok := modelRead(text)
			if ok {
				wantRead(t, text, want, api.OK)
				continue
			}
			wantNoText(t, text)
		}
		wantNoTextUnless(t, slices.Concat(words[:i], words[i+1:]))
		wantNoTextUnless(t, slices.Concat(words[:i], []string{w, w}, words[i+1:]))
		if i > 0 {
			l := slices.Clone(words)
			l[i-1], l[i] = l[i], l[i-1]
			wantNoTextUnless(t, l)
		}
	}
	for _, text := range []string{
		"start 0 caps 2 match 0", "caps 2 match 0", "start 0 match 0", "match 0", "caps start 2 0 match 0", "caps caps 2 start 0 match 0", "caps 2 start 0", "caps 2 start", "caps 2", "caps", "caps 2 start 0 match 0 caps 2 start 0 match 0",
		"caps 2 start 0 match", "caps 2 start 0 match match", "caps 2 start 0 fail 0", "caps 2 start 0 nop", "caps 2 start 0 nop 0 0", "caps 2 start 0 alt 0", "caps 2 start 0 alt 0 0 0", "caps 2 start 0 cap 0", "caps 2 start 0 cap 0 0 0", "caps 2 start 0 assert 1", "caps 2 start 0 assert 0 0", "caps 2 start 0 assert 3 0",
		"caps 2 start 0 rune", "caps 2 start 0 rune 0", "caps 2 start 0 rune 0 0", "caps 2 start 0 rune 0 1", "caps 2 start 0 rune 0 1 97", "caps 2 start 0 rune 0 1 97 97 97", "caps 2 start 0 rune 0 1 97 97 97 97", "caps 2 start 0 rune 0 2 97 97", "caps 2 start 0 rune 0 2 97 97 98", "caps 2 start 0 rune 0 1 98 97", "caps 2 start 0 rune 0 2 97 97 98 98", "caps 2 start 0 rune 0 999999999 97 97",
		"caps 2 start 0 rune 0 1 55296 55296", "caps 2 start 0 rune 0 1 0 1114111", "caps 2 start 0 rune 0 1 0 1114112", "caps 2 start 0 alt 1 0", "caps 2 start 0 alt 0 1", "caps 2 start 0 cap 2 0", "caps 2 start 0 match 100", "caps 0 start 0 match 0", "caps 1 start 0 match 0", "caps 3 start 0 match 0", "caps 1004 start 0 match 0", "caps 2 start 1 match 0",
	} {
		wantNoText(t, text)
	}
}

// wantNoTextUnless fails, if Read does not take just what the model takes of some words.
func wantNoTextUnless(t *testing.T, words []string) {
	t.Helper()
	text := strings.Join(words, " ")
	if want, ok := modelRead(text); ok {
		wantRead(t, text, want, api.OK)
		return
	}
	wantNoText(t, text)
}

// TestTextsCut: P10.2: texts that end too early, at each place, and what is still one.
func TestTextsCut(t *testing.T) {
	taken := 0
	for _, p := range []api.Program{letter(), base(), whole(2, match(12), match(3))} {
		text := modelText(p)
		for i := range len(text) {
			want, ok := modelRead(text[:i])
			if ok {
				taken++
				wantRead(t, text[:i], want, api.OK)
			} else {
				wantNoText(t, text[:i])
			}
		}
		for i := 1; i < len(text); i++ {
			if !strings.HasPrefix(strings.TrimLeft(text[i:], " \n"), "caps") {
				wantNoText(t, text[i:])
			}
		}
	}
	if taken < 5 {
		t.Errorf("%d were taken: too few", taken)
	}
}

// TestTextsTurned: P10.2: each byte of a text turned to each other one, taken out, or with another one ahead of it.
func TestTextsTurned(t *testing.T) {
	taken := 0
	want := func(text string) {
		p, ok := modelRead(text)
		if !ok {
			wantNoText(t, text)
			return
		}
		taken++
		wantRead(t, text, p, api.OK)
		wantThereAndBack(t, p)
	}
	for _, p := range []api.Program{letter(), base()} {
		text := modelText(p)
		for i := range len(text) {
			want(text[:i] + text[i+1:])
			for b := range 256 {
				want(text[:i] + string([]byte{byte(b)}) + text[i+1:])
				want(text[:i] + string([]byte{byte(b)}) + text[i:])
			}
		}
	}
	if taken < 1000 {
		t.Errorf("%d were taken: too few", taken)
	}
}

// TestRefusedPrograms: P10.1, P10.3: programs that may not be, each field wrong by itself.
func TestRefusedPrograms(t *testing.T) {
	wrong := []api.Program{{}, whole(2), {Insts: []api.Inst{}, Caps: 2}, whole(0, match(0)), whole(3, match(0)), whole(1004, match(0)), whole(-2, match(0)), whole(2, many(api.MaxInsts+1, fail())...)}
	for _, start := range []int{-1, 8, 9, 1 << 30} {
		p := base()
		p.Start = start
		wrong = append(wrong, p)
	}
	for at := range base().Insts {
		for _, change := range []func(*api.Inst){
			func(i *api.Inst) { i.Op = 0 }, func(i *api.Inst) { i.Op = 8 }, func(i *api.Inst) { i.Op = -1 }, func(i *api.Inst) { i.Op += 256 },
			func(i *api.Inst) { i.X = -1 }, func(i *api.Inst) { i.X = 8 }, func(i *api.Inst) { i.Y = -1 }, func(i *api.Inst) { i.Y = 8 },
			func(i *api.Inst) { i.Arg = -1 }, func(i *api.Inst) { i.Arg = 100 },
			func(i *api.Inst) { i.Ranges = rangesOf('b', 'a') }, func(i *api.Inst) { i.Ranges = rangesOf('a', 'b', 'c', 'd') }, func(i *api.Inst) { i.Ranges = manyRanges(api.MaxRanges+1, 0) },
		} {
			p := base()
			change(&p.Insts[at])
			wrong = append(wrong, p)
		}
	}
	for op, change := range map[int]func(*api.Inst){
		api.OpRune: func(i *api.Inst) { i.Ranges = nil }, api.OpCap: func(i *api.Inst) { i.Arg = 6 }, api.OpAssert: func(i *api.Inst) { i.Arg = 3 },
		api.OpAlt: func(i *api.Inst) { i.Arg = 1 }, api.OpMatch: func(i *api.Inst) { i.X = 1 }, api.OpFail: func(i *api.Inst) { i.Y = 1 }, api.OpNop: func(i *api.Inst) { i.Ranges = rangesOf('a', 'a') },
	} {
		p := base()
		change(&p.Insts[slices.IndexFunc(p.Insts, func(i api.Inst) bool { return i.Op == op })])
		wrong = append(wrong, p)
	}
	for _, p := range wrong {
		wantPrint(t, p, "", api.ErrProg)
		wantBytes(t, p, nil, api.ErrProg)
	}
}

// TestRefusedReadings: P10.2, P10.3: texts and bytes that are written as they should be, of programs that may not be.
func TestRefusedReadings(t *testing.T) {
	for _, p := range []api.Program{
		whole(2), whole(0, match(0)), whole(3, match(0)), whole(1004, match(0)), {Start: 1, Caps: 2, Insts: []api.Inst{match(0)}}, whole(2, match(100)), whole(2, note(2, 0)), whole(2, ifHolds(0, 0)), whole(2, ifHolds(3, 0)), whole(2, ifHolds(64, 0)),
		whole(2, goOn(1)), whole(2, either(0, 1)), whole(2, either(1, 0)), whole(2, note(0, 1)), whole(2, ifHolds(1, 1)), whole(2, ifRune(1, rangesOf('a', 'a')...)),
		whole(2, ifRune(0)), whole(2, ifRune(0, rangesOf('b', 'a')...)), whole(2, ifRune(0, rangesOf('a', 'b', 'c', 'd')...)), whole(2, ifRune(0, rangesOf('a', 'b', 'b', 'd')...)), whole(2, ifRune(0, rangesOf(0xD800, 0xD800)...)), whole(2, ifRune(0, rangesOf(0, api.MaxRune)...)), whole(2, ifRune(0, rangesOf(0, api.MaxRune+1)...)),
		whole(2, ifRune(0, manyRanges(api.MaxRanges+1, 0)...)), whole(2, many(api.MaxInsts+1, fail())...), whole(2, many(2*api.MaxInsts, goOn(0))...),
	} {
		wantNoText(t, modelText(p))
		wantNoBytes(t, modelBytes(p))
	}
	p := whole(2, ifRune(0, manyRanges(api.MaxRanges, 0)...))
	wantRead(t, modelText(p), p, api.OK)
	wantLoad(t, modelBytes(p), p, api.OK)
	p = whole(2, many(api.MaxInsts, fail())...)
	wantRead(t, modelText(p), p, api.OK)
	wantLoad(t, modelBytes(p), p, api.OK)
}

// TestOneText: P10.5: all texts of one program are one, once they are read and printed.
func TestOneText(t *testing.T) {
	want := modelText(base())
	for _, text := range []string{want, strings.Join(strings.Fields(want), " "), strings.ReplaceAll(want, "\n", "\r\n"), "\n\n" + strings.ReplaceAll(want, " ", "\t \t"), strings.TrimSpace(want)} {
		wantRead(t, text, base(), api.OK)
		if p, errno := code.Read(text); errno == api.OK {
			wantPrint(t, p, want, api.OK)
		}
	}
}
