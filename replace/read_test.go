package replace_test

import (
	"strconv"
	"strings"
	"testing"

	"heron/api"
	"heron/replace"
)

// TestTemplates: P17.1: what may stand behind a `$`, and what may not.
func TestTemplates(t *testing.T) {
	name := strings.Repeat("n", api.MaxName)
	const five = `(a)(?P<x>b)(?P<_>c)(?P<X2_y>d)()`
	for _, x := range []struct {
		pattern, template string
		errno             api.Errno
	}{
		// Nothing, and bytes that stand for themselves, brackets and backslashes too.
		{`a`, "", api.OK}, {`a`, "a", api.OK}, {`a`, "{}", api.OK}, {`a`, "{1}", api.OK}, {`a`, "}", api.OK}, {`a`, "{", api.OK}, {`a`, `\1`, api.OK}, {`a`, "\x00\xFF\xC3\n", api.OK}, {`a`, "1{x}9", api.OK},
		// At the end.
		{`a`, "$", api.ErrReplace}, {`a`, "a$", api.ErrReplace}, {`a`, "$$$", api.ErrReplace}, {`a`, "$0$", api.ErrReplace}, {`a`, "${0}$", api.ErrReplace},
		// Behind another one.
		{`a`, "$$", api.OK}, {`a`, "$$$$", api.OK}, {`a`, "$$$0", api.OK}, {`a`, "$$1", api.OK}, {`a`, "$$$1", api.ErrReplace}, {`a`, "$${", api.OK}, {`a`, "$${x", api.OK}, {`a`, "$$x", api.OK}, {`a`, "$$$x", api.ErrReplace},
		// Ahead of a digit.
		{`a`, "$0", api.OK}, {`a`, "$1", api.ErrReplace}, {`(a)`, "$1", api.OK}, {`(a)`, "$2", api.ErrReplace}, {`(a)`, "$1x", api.OK}, {`(a)`, "$1_", api.OK}, {`(a)`, "$1{", api.OK}, {`(a)`, "$1}", api.OK}, {`(a)`, "$1$0", api.OK}, {`(a)`, "$10", api.ErrReplace}, {`(a)`, "$1 0", api.OK},
		// Noughts ahead do nothing.
		{`(a)`, "$00", api.OK}, {`(a)`, "$01", api.OK}, {`(a)`, "$0001", api.OK}, {`(a)`, "$002", api.ErrReplace}, {`(a)`, "$010", api.ErrReplace}, {`(a)`, "$" + strings.Repeat("0", 100) + "1", api.OK}, {`(a)`, "${" + strings.Repeat("0", 100) + "1}", api.OK}, {`(a)`, "$1" + strings.Repeat("0", 100), api.ErrReplace},
		// More digits than a number holds: 2^64 and 2^64 + 1, 2^32 and 2^32 + 1 are neither 0 nor 1.
		{`(a)`, "$99999999999999999999", api.ErrReplace}, {`(a)`, "$18446744073709551616", api.ErrReplace}, {`(a)`, "$18446744073709551617", api.ErrReplace}, {`(a)`, "$4294967296", api.ErrReplace}, {`(a)`, "$4294967297", api.ErrReplace}, {`(a)`, "$9223372036854775808", api.ErrReplace}, {`(a)`, "${18446744073709551617}", api.ErrReplace}, {`(a)`, "$" + strings.Repeat("9", 1000), api.ErrReplace},
		// Ahead of a bracket: a number.
		{`a`, "${0}", api.OK}, {`(a)`, "${1}", api.OK}, {`(a)`, "${1}0", api.OK}, {`(a)`, "${01}", api.OK}, {`(a)`, "${2}", api.ErrReplace}, {`(a)`, "${10}", api.ErrReplace}, {`(a)`, "${-1}", api.ErrReplace}, {`(a)`, "${+1}", api.ErrReplace}, {`(a)`, "${ 1}", api.ErrReplace}, {`(a)`, "${1 }", api.ErrReplace}, {`(a)`, "${0x1}", api.ErrReplace}, {`(a)`, "${1_0}", api.ErrReplace},
		// A name.
		{five, "${x}", api.OK}, {five, "${_}", api.OK}, {five, "${X2_y}", api.OK}, {five, "${x}${x}${_}${5}$5", api.OK}, {five, "${X}", api.ErrReplace}, {five, "${x }", api.ErrReplace}, {five, "${ x}", api.ErrReplace}, {five, "${xx}", api.ErrReplace}, {five, "${x2_y}", api.ErrReplace}, {five, "${X2_}", api.ErrReplace}, {five, "${y}", api.ErrReplace}, {five, "$6", api.ErrReplace},
		{`(?P<` + name + `>)`, "${" + name + "}", api.OK}, {`(?P<` + name + `>)`, "${" + name + "n}", api.ErrReplace}, {`(?P<` + name + `>)`, "${" + name[1:] + "}", api.ErrReplace},
		// A name that could be none.
		{five, "${x-}", api.ErrReplace}, {five, "${é}", api.ErrReplace}, {five, "${\xFF}", api.ErrReplace}, {five, "${x\x00}", api.ErrReplace}, {five, "${$x}", api.ErrReplace}, {five, "${{x}}", api.ErrReplace}, {five, "${x$}", api.ErrReplace}, {five, "${x\n}", api.ErrReplace},
		// A digit and a letter.
		{five, "${1x}", api.ErrReplace}, {five, "${1_}", api.ErrReplace}, {five, "${x1}", api.ErrReplace}, {`(?P<x1>a)`, "${x1}", api.OK}, {`(?P<x1>a)`, "${1x}", api.ErrReplace}, {`(?P<e1>a)`, "${1e1}", api.ErrReplace},
		// With nothing in them: no group is named so, though groups are there that have no name.
		{`a`, "${}", api.ErrReplace}, {`(a)`, "${}", api.ErrReplace}, {five, "${}", api.ErrReplace}, {five, "${}}", api.ErrReplace},
		// Without an end.
		{five, "${", api.ErrReplace}, {five, "${1", api.ErrReplace}, {five, "${x", api.ErrReplace}, {five, "${x)", api.ErrReplace}, {five, "${x${1}", api.ErrReplace}, {five, "${1]", api.ErrReplace}, {five, "${x}${", api.ErrReplace}, {five, "${x{1}", api.ErrReplace},
		// A name without brackets, and other bytes.
		{five, "$x", api.ErrReplace}, {five, "$_", api.ErrReplace}, {five, "$X2_y", api.ErrReplace}, {five, "$}", api.ErrReplace}, {five, "$-1", api.ErrReplace}, {five, "$ 1", api.ErrReplace}, {five, "$\x00", api.ErrReplace}, {five, "$\xFF", api.ErrReplace}, {five, "$é", api.ErrReplace}, {five, "$\\$", api.ErrReplace}, {five, "$(1)", api.ErrReplace}, {five, "$&", api.ErrReplace}, {five, "$<x>", api.ErrReplace}, {five, "$/", api.ErrReplace}, {five, "$:", api.ErrReplace}, {five, "$٣", api.ErrReplace},
		// One that may not be is enough, wherever it stands.
		{five, "$1$2$9$3", api.ErrReplace}, {five, "a${x}b${y}c", api.ErrReplace}, {five, "$x$1", api.ErrReplace},
	} {
		wantReads(t, x.pattern, x.template, x.errno)
		if _, may := modelRead(made(t, x.pattern), x.template); may != (x.errno == api.OK) {
			t.Errorf("%q for %q: the model has %v", x.template, x.pattern, may)
		}
	}
}

// TestEachByte: P17.1: each byte, alone, behind a `$`, and in brackets.
func TestEachByte(t *testing.T) {
	const pattern = `(a)(?P<x>b)`
	r := made(t, pattern)
	for c := range 256 {
		one := string([]byte{byte(c)})
		for _, text := range []string{one, "$" + one, "${" + one + "}", "$1" + one, "${x" + one, "$" + one + "1", one + "$1"} {
			_, may := modelRead(r, text)
			x, errno := replace.Read(r, text)
			if may != (errno == api.OK) || may != (x != nil) || !may && errno != api.ErrReplace {
				t.Errorf("%q: %v, %d; want %v", text, x != nil, errno, may)
			}
			if may {
				wantModel(t, r, []byte("-ab-"), text)
			}
		}
	}
}

// TestLastGroup: P17.1: numbers up to the greatest group's, one more, for no groups, some, and as many as there may be.
func TestLastGroup(t *testing.T) {
	for _, groups := range []int{0, 1, 9, 10, 11, 99, 100, api.MaxGroups} {
		pattern := strings.Repeat(`(a)`, groups)
		r := made(t, pattern)
		for k := range groups + 12 {
			want := api.OK
			if k > groups {
				want = api.ErrReplace
			}
			for _, text := range []string{"$" + strconv.Itoa(k), "${" + strconv.Itoa(k) + "}", "-$00" + strconv.Itoa(k) + "-"} {
				if x, errno := replace.Read(r, text); errno != want || (x != nil) != (want == api.OK) {
					t.Errorf("%d groups, %q: %v, %d; want %d", groups, text, x != nil, errno, want)
				}
			}
		}
		wantReads(t, pattern, "$"+strconv.Itoa(groups), api.OK)
		wantReads(t, pattern, "$"+strconv.Itoa(groups+1), api.ErrReplace)
	}
}

// TestManyNames: P17.1: as many names as there may be: each is its own group's.
func TestManyNames(t *testing.T) {
	var pattern, template strings.Builder
	var caps []int
	var want strings.Builder
	b := make([]byte, api.MaxGroups)
	caps = append(caps, -1, -1)
	for i := range b {
		b[i] = byte(i)
		name := "n" + strconv.Itoa(i)
		pattern.WriteString("(?P<" + name + ">)")
		caps = append(caps, i, i+1)
	}
	for i := range b {
		i = i * 7 % len(b)
		template.WriteString("${n" + strconv.Itoa(i) + "}")
		want.WriteByte(b[i])
	}
	x := read(t, made(t, pattern.String()), template.String())
	wantExpanded(t, x, b, caps, want.String(), api.OK)
}

// TestLongTemplates: P17.1, P17.3, W4: templates of 0, 1, MaxText and one more bytes; that there are too many comes ahead of all that is wrong with them.
func TestLongTemplates(t *testing.T) {
	const long = api.MaxText
	r := made(t, first)
	for _, x := range []struct {
		unit  string
		errno api.Errno // of so many of them that there are MaxText bytes
	}{
		{"a", api.OK}, {"$$", api.OK}, {"$0", api.OK}, {"${x}", api.OK}, {"\xFF", api.OK}, {"-$$${001}", api.ErrReplace}, {"${xxxx", api.ErrReplace}, {"$x", api.ErrReplace},
	} {
		text := strings.Repeat(x.unit, long/len(x.unit)+1)
		if made, errno := replace.Read(r, text[:long+1]); made != nil || errno != api.ErrLong {
			t.Errorf("%q: %v, %d", x.unit, made != nil, errno)
		}
		wantAllRefused(t, r, []byte("-"), text[:long+1], api.ErrLong)
		if made, errno := replace.Read(r, text[:long]); errno != x.errno || (made != nil) != (errno == api.OK) {
			t.Errorf("%q: %d; want %d", x.unit, errno, x.errno)
		}
		if x.errno != api.OK {
			wantAllRefused(t, r, []byte("-"), text[:long], x.errno)
		} else if got := allOf(t, r, []byte("-"), text[:long]); string(got) != "-" {
			t.Errorf("%q: %s", x.unit, shown(got))
		}
	}
	// What is wrong stands at the very end.
	text := strings.Repeat("a", long-1) + "$"
	if x, errno := replace.Read(made(t, `a`), text); x != nil || errno != api.ErrReplace {
		t.Errorf("%v, %d", x != nil, errno)
	}
	// One number, and one name, of nearly all the bytes.
	wantReads(t, `(a)`, "$"+strings.Repeat("0", long-2)+"1", api.OK)
	wantReads(t, `(a)`, "$"+strings.Repeat("9", long-1), api.ErrReplace)
	wantReads(t, `(a)`, "${"+strings.Repeat("0", long-3)+"}", api.OK)
	wantReads(t, `(?P<a>a)`, "${"+strings.Repeat("a", long-3)+"}", api.ErrReplace)
	wantReads(t, `(?P<a>a)`, "${"+strings.Repeat("a", long-2), api.ErrReplace)
}

// TestNumbersOfErrors: the numbers that the chapter names.
func TestNumbersOfErrors(t *testing.T) {
	if api.ErrArg != 1 || api.ErrLong != 2 || api.ErrBig != 3 || api.ErrReplace != 170 {
		t.Errorf("%d %d %d %d", api.ErrArg, api.ErrLong, api.ErrBig, api.ErrReplace)
	}
}

// TestStays: P17.1: a template stays what it is, whatever becomes of the Regex: others are read for it, it is asked, its names are overwritten. (That it is not kept: TestNothingKept.)
func TestStays(t *testing.T) {
	r := made(t, first)
	x := read(t, r, "$1-${x}$$")
	want := "aa-b$"
	ask := func() {
		wantExpanded(t, x, []byte(firstBytes), []int{0, 3, 0, 2, 2, 3}, want, api.OK)
		wantExpanded(t, x, []byte(firstBytes), []int{0, 3, 0, 2}, "", api.ErrArg)
		wantExpanded(t, x, []byte("b"), []int{0, 1, -1, -1, 0, 1}, "-b$", api.OK)
	}
	ask()
	other := read(t, r, "${x}$1")
	read(t, made(t, `(?P<y>z)`), "${y}")
	replace.Read(r, "$9")
	ask()
	wantExpanded(t, other, []byte(firstBytes), []int{0, 3, 0, 2, 2, 3}, "baa", api.OK)
	r.All([]byte("aabaab"), -1)
	r.With(2)
	names := r.Names()
	names[0], names[1] = "x", "y"
	ask()
}
