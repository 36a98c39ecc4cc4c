package many_test

import (
	"slices"
	"strconv"
	"strings"
	"testing"

	"heron/api"
)

// example is a set, bytes, and what it tells of them.
type example struct {
	l    []string
	text string
	want told
}

// examples are those of the chapter, and the ninth one of the whole.
func examples() []example {
	l := []string{`a+`, `(b)`, `\d`, `ab`}
	return []example{
		{l, "xaab", told{[]int{0, 1, 3}, 0, []int{1, 3}}},
		{l, "b1", told{[]int{1, 2}, 1, []int{0, 1, 0, 1}}},
		{l, "ab", told{[]int{0, 1, 3}, 0, []int{0, 1}}},
		{l, "-", none()},
		{l, "", none()},
		{[]string{`^b`, `b$`}, "a\nb", told{[]int{0, 1}, 0, []int{2, 3}}},
	}
}

// wantExamples fails, if a set does not tell what an example has.
func wantExamples(t *testing.T, l []example) {
	t.Helper()
	for _, x := range l {
		wantTold(t, x.l, []byte(x.text), x.want)
	}
}

// TestExamples: P18.2, P18.3: the chapter's examples.
func TestExamples(t *testing.T) {
	wantExamples(t, examples())
	wantFault(t, nil, -1, api.ErrArg, -1)
	wantFault(t, []string{`a`, `b(`, `[`}, 1, api.ErrSyntax, 2)
	wantFault(t, slices.Repeat([]string{`(?:a{500}){20}`}, 3), -1, api.ErrBig, -1)
}

// TestWhichIsFirst: P18.3: the one that begins first, be it listed last, however long it is; of several that begin there the least number, be it the longer or the shorter one.
func TestWhichIsFirst(t *testing.T) {
	wantExamples(t, []example{
		// The longer one ahead, the shorter one ahead.
		{[]string{`abc`, `a`}, "-abc", told{[]int{0, 1}, 0, []int{1, 4}}},
		{[]string{`a`, `abc`}, "-abc", told{[]int{0, 1}, 0, []int{1, 2}}},
		{[]string{`a*`, `a+`}, "aa", told{[]int{0, 1}, 0, []int{0, 2}}},
		{[]string{`a*?`, `a+`}, "aa", told{[]int{0, 1}, 0, []int{0, 0}}},
		{[]string{``, `aaa`}, "aaa", told{[]int{0, 1}, 0, []int{0, 0}}},
		// The one that begins first is listed last.
		{[]string{`c`, `b`, `a`}, "abc", told{[]int{0, 1, 2}, 2, []int{0, 1}}},
		{[]string{`c`, `b`, `a`}, "-abc", told{[]int{0, 1, 2}, 2, []int{1, 2}}},
		{[]string{`c`, `b`, `abc`}, "-abc", told{[]int{0, 1, 2}, 2, []int{1, 4}}},
		{[]string{`b`, `c`, `abd`}, "abcabd", told{[]int{0, 1, 2}, 0, []int{1, 2}}},
		{[]string{`c`, `b`, `a`, ``}, "-abc", told{[]int{0, 1, 2, 3}, 3, []int{0, 0}}},
		{[]string{`b+`, `x`, `(a+)(b+)`}, "aabb", told{[]int{0, 2}, 2, []int{0, 4, 0, 2, 2, 4}}},
		{[]string{`x`, `y`, `b`, `a`, `z`}, "-a-b-x", told{[]int{0, 2, 3}, 3, []int{1, 2}}},
		// One that ends first, but begins later, is not the first one.
		{[]string{`b`, `a.*z`}, "-abcz", told{[]int{0, 1}, 1, []int{1, 5}}},
		{[]string{`b`, `a.*z`}, "-abc", told{[]int{0}, 0, []int{2, 3}}},
		// One rune earlier, by more than one byte.
		{[]string{`a`, `é`}, "-éa", told{[]int{0, 1}, 1, []int{1, 3}}},
		{[]string{`é`, `a`}, "-éa", told{[]int{0, 1}, 0, []int{1, 3}}},
		{[]string{`\z`, `$`, `\b`}, "\n-", told{[]int{0, 1}, 1, []int{0, 0}}},
	})
}

// TestSamePattern: P18.2, P18.3: the same pattern twice, and a hundred times: each is told, the first one of them is first.
func TestSamePattern(t *testing.T) {
	wantExamples(t, []example{
		{[]string{`b`, `b`}, "ab", told{[]int{0, 1}, 0, []int{1, 2}}},
		{[]string{`a`, `b`, `a`, `b`}, "-b", told{[]int{1, 3}, 1, []int{1, 2}}},
		{[]string{`a`, `(b)`, `b`, `(b)`}, "-ba", told{[]int{0, 1, 2, 3}, 1, []int{1, 2, 1, 2}}},
		{[]string{`a`, `b`, `(b)`, `(b)`}, "-ba", told{[]int{0, 1, 2, 3}, 1, []int{1, 2}}},
		{[]string{`x`, `x`}, "a", none()},
	})
	var all []int
	for which := range api.MaxSet {
		all = append(all, which)
	}
	wantTold(t, slices.Repeat([]string{`(a)`}, api.MaxSet), []byte("-a"), told{all, 0, []int{1, 2, 1, 2}})
}

// TestNoMatchAndEmpty: P18.2, P18.3: patterns that fit nowhere, that fit nothing, and nothing as bytes.
func TestNoMatchAndEmpty(t *testing.T) {
	const never = `[^\x{0}-\x{10FFFF}]`
	wantExamples(t, []example{
		{[]string{never}, "a", none()}, {[]string{never, `a\Ab`, `\bb\B`}, "ab", none()},
		{[]string{never, ``}, "", told{[]int{1}, 1, []int{0, 0}}},
		{[]string{``}, "", told{[]int{0}, 0, []int{0, 0}}},
		{[]string{``, ``}, "ab", told{[]int{0, 1}, 0, []int{0, 0}}},
		{[]string{`a`, `b*`}, "-a", told{[]int{0, 1}, 1, []int{0, 0}}},
		{[]string{`a`, `b*`}, "a", told{[]int{0, 1}, 0, []int{0, 1}}},
		{[]string{`a`, `()`, `(|a)+`}, "", told{[]int{1, 2}, 1, []int{0, 0, 0, 0}}},
		{[]string{`a`, `\z`}, "bb", told{[]int{1}, 1, []int{2, 2}}},
		{[]string{`a`, `\z`, `\A`}, "bb", told{[]int{1, 2}, 2, []int{0, 0}}},
		{[]string{`\b`, `a`}, "", none()},
		{[]string{`\b`, `\B`}, "", told{[]int{1}, 1, []int{0, 0}}},
	})
	for _, b := range [][]byte{nil, {}, make([]byte, 0, 5)} {
		wantTold(t, []string{`a`, `a?`}, b, told{[]int{1}, 1, []int{0, 0}})
		wantTold(t, []string{`a`, `.`}, b, none())
	}
}

// TestGroups: P18.3: as many captures as the pattern has, however many the others have; groups that are not met, and names.
func TestGroups(t *testing.T) {
	wantExamples(t, []example{
		{[]string{`a`, `(b)(c)(d)`}, "abcd", told{[]int{0, 1}, 0, []int{0, 1}}},
		{[]string{`(b)(c)(d)`, `a`}, "abcd", told{[]int{0, 1}, 1, []int{0, 1}}},
		{[]string{`a`, `(b)(c)(d)`}, "bcda", told{[]int{0, 1}, 1, []int{0, 3, 0, 1, 1, 2, 2, 3}}},
		{[]string{`(a)|(b)`, `c`}, "b", told{[]int{0}, 0, []int{0, 1, -1, -1, 0, 1}}},
		{[]string{`x`, `(?P<one>a)?(?P<two>b)`}, "-b", told{[]int{1}, 1, []int{1, 2, -1, -1, 1, 2}}},
		{[]string{`(?P<n>a)`, `(?P<n>b)`, `(?P<n>c)`}, "cb", told{[]int{1, 2}, 2, []int{0, 1, 0, 1}}},
		{[]string{`x`, `(a){0}b`}, "b", told{[]int{1}, 1, []int{0, 1, -1, -1}}},
		{[]string{`(?:(a)|b)*`}, "ab", told{[]int{0}, 0, []int{0, 2, 0, 1}}},
		{[]string{`c`, `(a|ab)(c|bcd)(d*)`}, "abcd", told{[]int{0, 1}, 1, []int{0, 4, 0, 1, 1, 4, 4, 4}}},
		{[]string{`c`, `(?:(a??)(b??))+c`}, "abc", told{[]int{0, 1}, 1, []int{0, 3, 0, 1, 1, 2}}},
	})
	// As many groups as there may be, of one of them.
	want := []int{1, 2}
	for range api.MaxGroups {
		want = append(want, 1, 1)
	}
	wantTold(t, []string{`b`, strings.Repeat(`()`, api.MaxGroups) + `a`, `(a)`}, []byte("-a-b"), told{[]int{0, 1, 2}, 1, want})
	wantTold(t, []string{`b`, `(a)`, strings.Repeat(`()`, api.MaxGroups) + `a`}, []byte("-a-b"), told{[]int{0, 1, 2}, 1, []int{1, 2, 1, 2}})
}

// TestAssertions: P18.2, P18.3: what holds at a place is asked of all the bytes, of each pattern.
func TestAssertions(t *testing.T) {
	l := []string{`\Ab`, `^b`, `b$`, `b\z`, `\bb`, `b\B`}
	wantExamples(t, []example{
		{l, "b", told{[]int{0, 1, 2, 3, 4}, 0, []int{0, 1}}},
		{l, "a\nb\na", told{[]int{1, 2, 4}, 1, []int{2, 3}}},
		{l, "ab\n", told{[]int{2}, 2, []int{1, 2}}},
		{l, "-b", told{[]int{2, 3, 4}, 2, []int{1, 2}}},
		{l, "-ba", told{[]int{4, 5}, 4, []int{1, 2}}},
		{l, "ab-b", told{[]int{2, 3, 4}, 2, []int{3, 4}}},
		{l, "abab", told{[]int{2, 3, 5}, 5, []int{1, 2}}},
		{l, "a", none()},
		{[]string{`$`, `^`, `\A`, `\z`}, "ab", told{[]int{0, 1, 2, 3}, 1, []int{0, 0}}},
		{[]string{`\z`, `$`}, "ab\nab", told{[]int{0, 1}, 1, []int{2, 2}}},
		{[]string{`^a`, `\Aa`}, "\na", told{[]int{0}, 0, []int{1, 2}}},
	})
}

// TestNoRunes: P18.2, P18.3: bytes that are no UTF-8: each by itself is FFFD.
func TestNoRunes(t *testing.T) {
	wantExamples(t, []example{
		{[]string{`a`, `\x{FFFD}`}, "\xC3a", told{[]int{0, 1}, 1, []int{0, 1}}},
		{[]string{`a`, `\x{FFFD}{2}`}, "\xC3\xA9\xA9\xFFa", told{[]int{0, 1}, 1, []int{2, 4}}},
		{[]string{`\x{FFFD}`, `é`}, "\xC3\xA9", told{[]int{1}, 1, []int{0, 2}}},
		{[]string{`\x{A9}`, `\x{C3}`, `.`}, "\xA9\xC3", told{[]int{2}, 2, []int{0, 1}}},
		{[]string{`€`, `(.)(.)(.)`}, "\xE2\x82", none()},
		{[]string{`€`, `(.)(.)`}, "\xE2\x82\xE2\x82\xAC", told{[]int{0, 1}, 1, []int{0, 2, 0, 1, 1, 2}}},
		{[]string{`\x{10FFFF}`, `[^\x{FFFD}]`}, "\xED\xA0\x80\xF4\x8F\xBF\xBF", told{[]int{0, 1}, 0, []int{3, 7}}},
		{[]string{`\b`, `\B`}, "\xFF", told{[]int{1}, 1, []int{0, 0}}},
	})
}

// TestAnyNumber: P18.2: the numbers rise, whichever patterns fit.
func TestAnyNumber(t *testing.T) {
	l := make([]string, api.MaxSet)
	for which := range l {
		// Each is a run of as many runes as its number tells, and one more, of one of two kinds.
		l[which] = "a{" + strconv.Itoa(which+1) + "}"
		if which%3 == 0 {
			l[which] = "b{" + strconv.Itoa(which+1) + "}"
		}
	}
	m := made(t, l...)
	for _, x := range []struct{ as, bs int }{{0, 0}, {1, 0}, {0, 1}, {2, 0}, {50, 1}, {1, 50}, {99, 100}, {100, 100}, {200, 0}, {0, 97}, {0, 98}, {0, 3}} {
		var want []int
		for which := range l {
			if which%3 == 0 && x.bs > which || which%3 != 0 && x.as > which {
				want = append(want, which)
			}
		}
		first := -1
		if i := slices.IndexFunc(want, func(which int) bool { return which%3 != 0 }); i >= 0 {
			first = want[i]
		} else if len(want) > 0 {
			first = want[0]
		}
		b := slices.Concat(repeated(x.as, "a"), repeated(x.bs, "b"))
		got := asked(t, m, b)
		if !slices.Equal(got.all, want) || got.which != first {
			t.Errorf("%v: %v; want %v, %d", x, got, want, first)
		}
	}
}
