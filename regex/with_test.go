package regex_test

import (
	"bytes"
	"testing"

	"heron/api"
	"heron/onepass"
)

// oneWay is a pattern, whether its tree begins with \A, and whether its program has one way.
type oneWay struct {
	pattern     string
	begins, one bool
}

// oneWays begin with \A in each of the ways that P16.5 lists, and in none.
func oneWays() []oneWay {
	return []oneWay{
		// NodeAssert.
		{`\A`, true, true}, {`\z`, false, true}, {`^`, false, true}, {`$`, false, true}, {`\b`, false, true}, {`\B`, false, true},
		// NodeCat: its first Sub.
		{`\Aab`, true, true}, {`\Aa*b`, true, true}, {`\A\A`, true, true}, {`(?:\Aa)b`, true, true}, {`(?:(?:\Aa)b)c`, true, true}, {`\A(?:a|b)*c`, true, true},
		{`a\A`, false, true}, {`(?:)\A`, false, true}, {`()\Aa`, false, true}, {`^\Aa`, false, true}, {`\b\Aa`, false, true}, {`a?\Ab`, false, true},
		{`\A(?:a|ab)`, true, false}, {`\Aa*a`, true, false}, {`\A(?:a*)*`, true, false},
		// NodeGroup: its Sub.
		{`(\A)`, true, true}, {`(\Aa)`, true, true}, {`((?P<x>\Aa)b)`, true, true}, {`(a)`, false, true}, {`(a\A)`, false, true}, {`(\Aa|\Aab)`, true, false},
		// NodeAlt: all of its Subs.
		{`\Aa|\Ab`, true, true}, {`(\Aa|\Ab)`, true, true}, {`(?:\Aa|(\Ab)|(?:\Ac)+)d`, true, true}, {`\Aa|b`, false, true}, {`a|\Ab`, false, true}, {`\Aa|\Ab|`, false, true}, {`\A(?:a|b)|\Ac|d`, false, true}, {`\A|\A`, true, false}, {`\Aa|\Aa`, true, false},
		// NodeRepeat: of Min 1 or more, its Sub.
		{`(?:\Aa)+`, true, true}, {`(?:\Aa)+?`, true, true}, {`(?:\Aa){1}`, true, true}, {`(?:\Aa){2}`, true, true}, {`(?:\Aa){1,3}`, true, true}, {`(?:\Aa){2,}b`, true, true}, {`\A{3}`, true, true},
		{`(?:\Aa)?`, false, true}, {`(?:\Aa)*`, false, true}, {`(?:\Aa){0}`, false, true}, {`(?:\Aa){0,2}`, false, true}, {`(?:\Aa){0,}`, false, true}, {`\A?`, false, false}, {`(?:a\A)+`, false, true}, {`\A+`, true, false}, {`\A{1,2}`, true, false},
		// Neither NodeEmpty nor NodeClass.
		{``, false, true}, {`a`, false, true}, {`[^\x{0}-\x{10FFFF}]`, false, true}, {`a|ab`, false, false},
	}
}

// TestOneWay: P16.5: engine 3 does it just if the program is one of onepass.Is and the tree begins with \A; all others do it always, and one may change one's mind.
func TestOneWay(t *testing.T) {
	for _, x := range oneWays() {
		if onepass.Is(programOf(t, x.pattern)) != x.one {
			t.Errorf("%q: onepass.Is is not %v", x.pattern, x.one)
		}
		r := made(t, x.pattern)
		for _, engine := range []int{3, 0, 1, 2, 4, 3, 3} {
			want := api.OK
			if engine == 3 && !(x.begins && x.one) {
				want = api.ErrRegexEngine
			}
			q, errno := r.With(engine)
			if errno != want || (q != nil) != (want == api.OK) {
				t.Errorf("%q by %d: %v, %d; want %d", x.pattern, engine, q, errno, want)
			}
			if errno == api.OK {
				r = q
			}
		}
	}
}

// TestOneWayFinds: P16.5, T6: what begins with \A is found at the beginning alone, by each engine, from whatever place All goes on, and the answers are the tree's.
func TestOneWayFinds(t *testing.T) {
	for _, x := range oneWays() {
		for _, s := range []string{"", "a", "b", "ab", "aab", "abab", "c", "acd", "ba", "bc", "\na", "aa\xFF", "d"} {
			want, told := model(t, x.pattern, []byte(s))
			if !told {
				t.Fatalf("%q: not told", x.pattern)
			}
			if x.begins && (len(want) > 1 || len(want) == 1 && want[0][0] != 0) {
				t.Errorf("%q in %q: the model has %v", x.pattern, s, want)
			}
			wantFinds(t, x.pattern, []byte(s), want...)
		}
	}
}

// TestNumbersOfEngines: P16.5, W4: the numbers from 0 to 4 and no others, whatever the pattern is.
func TestNumbersOfEngines(t *testing.T) {
	for _, pattern := range []string{``, `a`, `\Aa`, `(?:a*)*`} {
		for _, r := range byEach(t, made(t, pattern)) {
			for _, engine := range []int{-1, 5, 6, 100, least, most} {
				if q, errno := r.With(engine); q != nil || errno != api.ErrArg {
					t.Errorf("%q by %d: %v, %d; want %d", pattern, engine, q, errno, api.ErrArg)
				}
			}
			wantFirst(t, r, []byte("xa"), headOf(mustModel(t, pattern, "xa")))
		}
	}
}

// mustModel is the model's answer, which must be told.
func mustModel(t testing.TB, pattern, s string) [][]int {
	t.Helper()
	all, told := model(t, pattern, []byte(s))
	if !told {
		t.Fatalf("%q in %q: not told", pattern, s)
	}
	return all
}

// TestSameRegex: P16.5: by whatever engine, it has the same pattern, groups and names; and the one that it was made of stays what it is.
func TestSameRegex(t *testing.T) {
	const pattern = `\A(?P<x>a)(b)?`
	first := made(t, pattern)
	small := with(t, first, 2)
	for _, r := range append(byEach(t, first), byEach(t, small)...) {
		if r.Pattern() != pattern || r.Groups() != 2 || len(r.Names()) != 2 || r.Names()[0] != "x" || r.Names()[1] != "" {
			t.Errorf("%q: %d, %q", r.Pattern(), r.Groups(), r.Names())
		}
	}
	// The engines are each its own: what one of them refuses, no other one does.
	long := many(api.MaxText, "a")
	wantRefused(t, small, long, api.ErrBig)
	for _, engine := range []int{0, 1, 3, 4} {
		wantFirst(t, with(t, small, engine), long, []int{0, 1, 0, 1, -1, -1})
	}
	wantFirst(t, first, long, []int{0, 1, 0, 1, -1, -1})
	wantRefused(t, with(t, with(t, small, 4), 2), long, api.ErrBig)
}

// TestMap: P16.5: with engine 2, where the instructions times the places are MaxMap, and where they are one place more; the places are those of runes.
func TestMap(t *testing.T) {
	for _, x := range []struct {
		pattern string
		insts   int
		unit    string
	}{
		{`a{13}`, 16, "b"}, {`a{125}`, 128, "é"}, {`(a{5}){100}b{21}`, 724, "\xFF"}, {`a`, 4, "b"}, {`\A(a{11})`, 17, "b"},
	} {
		if got := len(programOf(t, x.pattern).Insts); got != x.insts {
			t.Fatalf("%q: %d instructions", x.pattern, got)
		}
		r := with(t, made(t, x.pattern), 2)
		// So many places there may be.
		places := api.MaxMap / x.insts
		if (places-1)*len(x.unit) > api.MaxText {
			t.Fatalf("%q: too many bytes", x.pattern)
		}
		fits := many(places-1, x.unit)
		wantFirst(t, r, fits, nil)
		wantSome(t, r, fits, nil, -1, 0, 1)
		if tooMany := many(places, x.unit); len(tooMany) <= api.MaxText {
			wantRefused(t, r, tooMany, api.ErrBig)
			wantSome(t, r, tooMany, nil, 0)
			for _, other := range []int{0, 1, 4} {
				wantFirst(t, with(t, r, other), tooMany, nil)
			}
		}
	}
}

// TestMapOfAll: P16.5: All by engine 2 tells all, if the first search fits; if it does not, it tells nothing, though something lies at hand, and later searches would fit; with n 0 nothing is searched.
func TestMapOfAll(t *testing.T) {
	r := with(t, made(t, `a{13}`), 2)
	const places = api.MaxMap / 16
	b := bytes.Repeat([]byte("b"), places)
	copy(b, "aaaaaaaaaaaaaaaaaaaaaaaaaa")
	copy(b[places-14:], "aaaaaaaaaaaaa")
	all := pairs(0, 13, 13, 26, places-14, places-1)
	wantSome(t, r, b[:places-1], all, -1, 0, 1, 2, 3, 4)
	wantFirst(t, r, b[:places-1], all[0])
	wantRefused(t, r, b, api.ErrBig)
	wantSome(t, r, b, nil, 0)
	wantSome(t, r, b[1:], pairs(0, 13, places-15, places-2), -1)
	// Of a text that is too long by its bytes alone, with n 0 too.
	long := make([]byte, api.MaxText+1)
	if l, errno := r.All(long, 0); len(l) != 0 || errno != api.ErrLong {
		t.Errorf("%v, %d", l, errno)
	}
}
