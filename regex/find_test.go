package regex_test

import (
	"slices"
	"strings"
	"testing"

	"heron/api"
)

// example is a pattern, bytes, and what All tells of them.
type example struct {
	pattern, text string
	all           [][]int
}

// examples are those of the chapter, and those of DOC.md that search.
func examples() []example {
	return []example{
		{`a(b*)`, "xabb", [][]int{{1, 4, 2, 4}}},
		{`(a|ab)(c|bcd)(d*)`, "abcd", [][]int{{0, 4, 0, 1, 1, 4, 4, 4}}},
		{`a*`, "baaab", pairs(0, 0, 1, 4, 5, 5)},
		{`(?:(a)|b)*`, "ab", [][]int{{0, 2, 0, 1}}},
		{`(a*?)*`, "aa", [][]int{{0, 1, 0, 1}, {1, 2, 1, 2}}},
		{`(|a)*`, "aa", [][]int{{0, 2, 1, 2}}},
		{`(|a)+`, "aa", [][]int{{0, 0, 0, 0}, {1, 1, 1, 1}, {2, 2, 2, 2}}},
		{`^`, "a\nb", pairs(0, 0, 2, 2)},
		{`.`, "\xC3\xA9\xFF", pairs(0, 2, 2, 3)},
		{`\b`, "a b", pairs(0, 0, 1, 1, 2, 2, 3, 3)},
		{`[^\x{0}-\x{10FFFF}]`, "a", nil},
		{`a|ab`, "ab", pairs(0, 1)},
		{`(?:(a??)(b??))+c`, "abc", [][]int{{0, 3, 0, 1, 1, 2}}},
		{`\b\w`, "one two", pairs(0, 1, 4, 5)},
		{`,\x{20}?`, "a, b,c", pairs(1, 3, 4, 5)},
		{`^b`, "a\nb", pairs(2, 3)},
		{`b$`, "a\nb", pairs(2, 3)},
		{`\x{E9}`, "\xC3\xA9\xC3", pairs(0, 2)},
		{`\x{FFFD}`, "\xC3\xA9\xC3", pairs(2, 3)},
	}
}

// TestExamples: P16.3, P16.4, T2, T3, T6: the examples of the chapter and of the document, by each engine.
func TestExamples(t *testing.T) {
	for _, x := range examples() {
		wantFinds(t, x.pattern, []byte(x.text), x.all...)
	}
}

// TestGroups: P16.3: groups with names and without, within one another, in a loop, that were not met, or whose count is 0: there are two offsets of each.
func TestGroups(t *testing.T) {
	for _, x := range []example{
		{`(a)|(b)`, "ba", [][]int{{0, 1, -1, -1, 0, 1}, {1, 2, 1, 2, -1, -1}}},
		{`(?P<x>a)(?P<y>b)?`, "aab", [][]int{{0, 1, 0, 1, -1, -1}, {1, 3, 1, 2, 2, 3}}},
		{`((a)(b))(c)`, "xabc", [][]int{{1, 4, 1, 3, 1, 2, 2, 3, 3, 4}}},
		{`(((())))`, "a", [][]int{{0, 0, 0, 0, 0, 0, 0, 0, 0, 0}, {1, 1, 1, 1, 1, 1, 1, 1, 1, 1}}},
		{`(?:(a)|(b)|c)*`, "abc", [][]int{{0, 3, 0, 1, 1, 2}}},
		{`(?:(a)(b)?)+`, "aba", [][]int{{0, 3, 2, 3, 1, 2}}},
		{`(a){0}b`, "ab", [][]int{{1, 2, -1, -1}}},
		{`(a){2}`, "aaaa", [][]int{{0, 2, 1, 2}, {2, 4, 3, 4}}},
		{`(a){0}(b){0}`, "c", [][]int{{0, 0, -1, -1, -1, -1}, {1, 1, -1, -1, -1, -1}}},
		{`(a*)(a*)`, "aa", [][]int{{0, 2, 0, 2, 2, 2}}},
		{`(a*?)(a*)`, "aa", [][]int{{0, 2, 0, 0, 0, 2}}},
		{`(a)|b|(c)`, "-b-", [][]int{{1, 2, -1, -1, -1, -1}}},
		{`(\w+)-(\w+)`, "é ab-c d-e", [][]int{{3, 7, 3, 5, 6, 7}, {8, 11, 8, 9, 10, 11}}},
		{`\A(a)(?:(b)|(c))`, "ac", [][]int{{0, 2, 0, 1, -1, -1, 1, 2}}},
		{`(x)(y)(z)`, "xyxy", nil},
		{`(x)`, "", nil},
		{`(x)(y)`, "xyxy", [][]int{{0, 2, 0, 1, 1, 2}, {2, 4, 2, 3, 3, 4}}},
	} {
		wantFinds(t, x.pattern, []byte(x.text), x.all...)
	}
	// As many groups as there may be, the last one of which alone is met.
	pattern := strings.Repeat(`(b)|`, api.MaxGroups-1) + `(a)`
	want := slices.Repeat([]int{-1}, 2*api.MaxGroups+2)
	want[0], want[1], want[2*api.MaxGroups], want[2*api.MaxGroups+1] = 1, 2, 1, 2
	wantFinds(t, pattern, []byte("xax"), want)
}

// TestPreferences: P16.3, T2: rather the left one of two, rather often or rather seldom; the least place counts ahead of all of that.
func TestPreferences(t *testing.T) {
	for _, x := range []example{
		{`ab|a`, "aab", pairs(0, 1, 1, 3)},
		{`a|ab|abc`, "abc", pairs(0, 1)},
		{`abc|ab|a`, "abcab", pairs(0, 3, 3, 5)},
		{`bcd|abcde|c`, "abcd", pairs(1, 4)},
		{`a+`, "aaa", pairs(0, 3)},
		{`a+?`, "aaa", pairs(0, 1, 1, 2, 2, 3)},
		{`a{2,3}`, "aaaaa", pairs(0, 3, 3, 5)},
		{`a{2,3}?`, "aaaaa", pairs(0, 2, 2, 4)},
		{`a??b?`, "ab", pairs(0, 0, 1, 2)},
		{`(?s:.*)x`, "axbx\nx", pairs(0, 6)},
		{`.*?x`, "axbx", pairs(0, 2, 2, 4)},
		{`(?:a|b)*?b`, "aabab", pairs(0, 3, 3, 5)},
		{`(?i:AB)`, "xaBab", pairs(1, 3, 3, 5)},
	} {
		wantFinds(t, x.pattern, []byte(x.text), x.all...)
	}
}

// TestEmptyMatches: P16.4, T3: empty matches at the beginning, at the end, one behind another; one that abuts the match taken last is left out, and what begins behind it is not.
func TestEmptyMatches(t *testing.T) {
	for _, x := range []example{
		{``, "", pairs(0, 0)},
		{``, "a", pairs(0, 0, 1, 1)},
		{``, "é\n€", pairs(0, 0, 2, 2, 3, 3, 6, 6)},
		{`a*`, "", pairs(0, 0)},
		{`a*`, "a", pairs(0, 1)},
		{`a*`, "b", pairs(0, 0, 1, 1)},
		{`a*`, "ab", pairs(0, 1, 2, 2)},
		{`a*`, "ba", pairs(0, 0, 1, 2)},
		{`a*`, "aabaa", pairs(0, 2, 3, 5)},
		{`a*`, "abba", pairs(0, 1, 2, 2, 3, 4)},
		{`a*?`, "aa", pairs(0, 0, 1, 1, 2, 2)},
		{`a|`, "aba", pairs(0, 1, 2, 3)},
		{`|a`, "aba", pairs(0, 0, 1, 1, 2, 2, 3, 3)},
		{`a|\b`, "a a", pairs(0, 1, 2, 3)},
		{`a|\z`, "aa", pairs(0, 1, 1, 2)},
		{`b|\z`, "aa", pairs(2, 2)},
		{`ab|b*`, "abbab", pairs(0, 2, 2, 3, 3, 5)},
		{`\n|$`, "a\n\nb", pairs(1, 2, 2, 3, 4, 4)},
		{`a\n|$`, "a\n\nb", pairs(0, 2, 4, 4)},
		{`$|\n`, "a\n\n", pairs(1, 1, 2, 2, 3, 3)},
		{`^|b`, "bb", pairs(0, 0, 1, 2)},
		{`\A|\z`, "", pairs(0, 0)},
		{`\A|\z`, "ab", pairs(0, 0, 2, 2)},
		{`\z|\A`, "é", pairs(0, 0, 2, 2)},
		{`\B`, "", pairs(0, 0)},
		{`\B`, "ab-", pairs(1, 1, 3, 3)},
		{`x*`, "\xFF\xFF", pairs(0, 0, 1, 1, 2, 2)},
	} {
		wantFinds(t, x.pattern, []byte(x.text), x.all...)
	}
}

// TestWholeText: P16.4: what holds at a place at which the scan stands is asked of the whole text: what lies ahead of it is there still, and the end is where it is.
func TestWholeText(t *testing.T) {
	for _, x := range []example{
		{`\Aa`, "aaa", pairs(0, 1)},
		{`^a`, "aaa\na", pairs(0, 1, 4, 5)},
		{`\ba`, "aa a", pairs(0, 1, 3, 4)},
		{`\Ba`, "aaa", pairs(1, 2, 2, 3)},
		{`a\B`, "aaa", pairs(0, 1, 1, 2)},
		{`a$`, "aa\na", pairs(1, 2, 3, 4)},
		{`a\z`, "aaa", pairs(2, 3)},
		{`(?:^|b)a`, "aaba", pairs(0, 1, 2, 4)},
		{`\b\w+\b`, "one two", pairs(0, 3, 4, 7)},
		{`\A\w|\W\w`, "ab c", pairs(0, 1, 2, 4)},
		{`\A`, "aa", pairs(0, 0)},
		{`\Aa*`, "ba", pairs(0, 0)},
		{`(?:\Aa)+`, "aa", pairs(0, 1)},
		{`\Aa|\Ab`, "bab", pairs(0, 1)},
		{`\Aa|b`, "aab", pairs(0, 1, 2, 3)},
		{`(?:\Aa)*b`, "abab", pairs(0, 2, 3, 4)},
		{`^`, "\n\n", pairs(0, 0, 1, 1, 2, 2)},
		{`$`, "\n\n", pairs(0, 0, 1, 1, 2, 2)},
	} {
		wantFinds(t, x.pattern, []byte(x.text), x.all...)
	}
}

// TestBytes: P16.3, P16.4, P16.9: runes of one to four bytes, bytes that are none, each by itself, runes that are cut off at the end and in the middle: a match begins and ends at a place.
func TestBytes(t *testing.T) {
	for _, x := range []example{
		{`.`, "aé€😀", pairs(0, 1, 1, 3, 3, 6, 6, 10)},
		{`é|😀`, "aé€😀", pairs(1, 3, 6, 10)},
		{`[^a]`, "a\x80a", pairs(1, 2)},
		{`.`, "\xE2\x82", pairs(0, 1, 1, 2)},
		{`.`, "\xE2\x82\xAC\xE2\x82", pairs(0, 3, 3, 4, 4, 5)},
		{`.`, "\xF0\x9F\x98a", pairs(0, 1, 1, 2, 2, 3, 3, 4)},
		{`\x{FFFD}`, "\xEF\xBF\xBD\xEF\xBF", pairs(0, 3, 3, 4, 4, 5)},
		{`\x{FFFD}+`, "a\xFF\xC0\x80b", pairs(1, 4)},
		{`\xE9`, "\xC3\xA9\xE9", pairs(0, 2)},
		{`\x82`, "\xE2\x82\xAC\xC2\x82", pairs(3, 5)},
		{`[\x{0}-\x{7F}]`, "\xC3\xA9\xC3\x28", pairs(3, 4)},
		{`\x{10FFFF}`, "\xF4\x8F\xBF\xBF\xF4\x90\x80\x80", pairs(0, 4)},
		{`[^\x{FFFD}]`, "\xED\xA0\x80\xED\x9F\xBF", pairs(3, 6)},
		{`\b`, "éa\xFF", pairs(2, 2, 3, 3)},
		{`\w`, "é_\xAAk", pairs(2, 3, 4, 5)},
		{`(?i:k)`, "K\xE2\x84\xAAk", pairs(0, 1, 4, 5)},
		{`\x00`, "a\x00", pairs(1, 2)},
		{`.*`, "\xFF\n\xFE\xFF", pairs(0, 1, 2, 4)},
	} {
		wantFinds(t, x.pattern, []byte(x.text), x.all...)
	}
	wantFinds(t, `(é)(.)(\x{FFFD})?`, []byte("-é€\x80é\x81\x82"), []int{1, 7, 1, 3, 3, 6, 6, 7}, []int{7, 11, 7, 9, 9, 10, 10, 11})
}

// TestHowMany: P16.4, P16.8: n below 0, 0, 1, as many as there are, one more, and the edges of all numbers.
func TestHowMany(t *testing.T) {
	for _, r := range byEach(t, made(t, `\A(a)|\Ab|c`)) {
		wantAll(t, r, []byte("acc-c"), [][]int{{0, 1, 0, 1}, {1, 2, -1, -1}, {2, 3, -1, -1}, {4, 5, -1, -1}})
		wantAll(t, r, []byte("xxx"), nil)
	}
	for _, r := range byEach(t, made(t, ``)) {
		wantSome(t, r, []byte("abc"), pairs(0, 0, 1, 1, 2, 2, 3, 3), least, -2, -1, 0, 1, 2, 3, 4, 5, 6, most)
	}
}

// TestAskedInAnyOrder: W2, P16.6: what is answered does not hang on what was asked ahead, of these bytes or of other ones, long and short, found and not, refused or not.
func TestAskedInAnyOrder(t *testing.T) {
	texts := [][]byte{nil, []byte("abab"), many(3000, "ab-"), []byte("x"), many(2000, "é"), make([]byte, api.MaxText+1), []byte("aab\n"), many(1500, "b")}
	for _, pattern := range []string{`(a)(b)?`, `a*b`, `\A(?:a|b)`, `\bab`, `ab`, `(?:(a)|(b))*`} {
		var want [][][]int
		for _, b := range texts {
			all, _ := made(t, pattern).All(b, 20)
			want = append(want, all)
		}
		for _, r := range byEach(t, made(t, pattern)) {
			for k := range 40 {
				i := k * 7 % len(texts)
				if all, errno := r.All(texts[i], 20); !sameAll(all, want[i]) || (errno == api.OK) != (len(texts[i]) <= api.MaxText) {
					t.Errorf("%q in %s: %s, %d; want %s", pattern, shown(texts[i]), shownAll(all), errno, shownAll(want[i]))
				}
				if k%3 == 0 && len(texts[i]) <= api.MaxText {
					wantFirst(t, r, texts[i], headOf(want[i]))
				}
				if k%5 == 0 {
					r.With(k % 7)
					r.Names()
				}
			}
		}
	}
}

// TestEmptyLists: W5: no bytes and nil are the same.
func TestEmptyLists(t *testing.T) {
	for _, pattern := range []string{``, `a`, `a?`, `\A\z`, `(a)?`} {
		want, _ := model(t, pattern, nil)
		wantFinds(t, pattern, nil, want...)
		wantFinds(t, pattern, []byte{}, want...)
	}
}
