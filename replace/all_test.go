package replace_test

import (
	"bytes"
	"slices"
	"strings"
	"testing"

	"heron/api"
	"heron/replace"
)

// example is what All answers.
type example struct {
	pattern, text, template, want string
	errno                         api.Errno
}

// examples are those of the chapter, and of DOC.md and of chapter 20.
func examples() []example {
	return []example{
		{first, firstBytes, "<$1>", "<aa>-<a>", api.OK},
		{first, firstBytes, "${x}$x", "", api.ErrReplace},
		{first, firstBytes, "[${x}]", "[b]-[]", api.OK},
		{first, firstBytes, "$$", "$-$", api.OK},
		{first, firstBytes, "", "-", api.OK},
		{first, firstBytes, "$0$0", "aabaab-aa", api.OK},
		{first, firstBytes, "$3", "", api.ErrReplace},
		{first, firstBytes, "$", "", api.ErrReplace},
		{first, firstBytes, "${", "", api.ErrReplace},
		{first, firstBytes, "${y}", "", api.ErrReplace},
		{first, firstBytes, "$01", "aa-a", api.OK},
		{first, firstBytes, "$10", "", api.ErrReplace},
		{`a*`, "baac", "x", "xbxcx", api.OK},
		{`\b\w`, "one two", "<$0>", "<o>ne <t>wo", api.OK},
		{`(?P<x>a)|b`, "a\nb", "<${x}>", "<a>\n<>", api.OK},
		{`a`, "a", "$", "", api.ErrReplace},
	}
}

// TestExamples: P17.1, P17.3: the examples of the chapters and of the document, by each engine.
func TestExamples(t *testing.T) {
	for _, x := range examples() {
		if x.errno == api.OK {
			wantAll(t, x.pattern, []byte(x.text), x.template, x.want)
		} else {
			wantReads(t, x.pattern, x.template, x.errno)
			for _, r := range byEach(t, made(t, x.pattern)) {
				wantAllRefused(t, r, []byte(x.text), x.template, x.errno)
			}
		}
	}
}

// TestAll: P17.3: nothing found, all found, groups that were not met, matches without bytes, bytes that are no UTF-8, and templates that look as if they were to be read once more.
func TestAll(t *testing.T) {
	for _, x := range []example{
		// Nothing is found.
		{`a`, "", "x", "", 0}, {`a`, "bcd", "x", "bcd", 0}, {`\Ab`, "ab", "$0$0", "ab", 0}, {`(a)(b)`, "ba", "$2$1", "ba", 0},
		// All is.
		{`a`, "a", "", "", 0}, {`a`, "aaa", "", "", 0}, {`a`, "aaa", "bb", "bbbbbb", 0}, {`(?s:.*)`, "a\nb", "x", "x", 0}, {`\A(?:a|b)*\z`, "abba", "[$0]", "[abba]", 0},
		// At the beginning, at the end, side by side.
		{`a`, "ab", "x", "xb", 0}, {`a`, "ba", "x", "bx", 0}, {`a`, "aba", "", "b", 0}, {`ab`, "abab", "[$0]", "[ab][ab]", 0}, {`a|b`, "ab-ba", "($0)", "(a)(b)-(b)(a)", 0},
		// Groups.
		{`(\w+)-(\w+)`, "ab-c d-e", "$2-$1", "c-ab e-d", 0}, {`(a)|(b)`, "abc", "[$1|$2]", "[a|][|b]c", 0}, {`(?:(a)|(b))+`, "ab-ba", "$1$2;", "ab;-ab;", 0}, {`(a){0}b`, "ab", "<$1>", "a<>", 0}, {`((a)(b))(c)`, "abc", "$4$3$2$1$0", "cbaababc", 0}, {`(?P<one>a)(?P<two>b)`, "ab", "${two}${one}${2}${1}$2$1", "bababa", 0}, {`(a)(a)?`, "aaa", "$2.", "a..", 0},
		// Matches without bytes: at the beginning, at the end, one behind another, behind others.
		{``, "", "x", "x", 0}, {``, "ab", "-", "-a-b-", 0}, {``, "aé", "-", "-a-é-", 0}, {`^`, "a\nb", "> ", "> a\n> b", 0}, {`$`, "a\nb", ";", "a;\nb;", 0}, {`\b`, "ab c", "|", "|ab| |c|", 0}, {`\B`, "ab", "|", "a|b", 0}, {`\A`, "ab", "x", "xab", 0}, {`\z`, "ab", "x", "abx", 0}, {`\A`, "", "x$0", "x", 0}, {`a*`, "aa", "x", "x", 0}, {`a*`, "aab", "x", "xbx", 0}, {`a*`, "baaab", "<$0>", "<>b<aaa>b<>", 0}, {`a*?`, "aa", "x", "xaxax", 0}, {`(|a)+`, "aa", "[$1]", "[]a[]a[]", 0}, {`()`, "ab", "$1x$1", "xaxbx", 0}, {`a?`, "ab", "", "b", 0}, {`a|`, "ba", "x", "xbx", 0},
		// No UTF-8: each byte by itself.
		{`.`, "\xC3\xA9\xFF", "<$0>", "<\xC3\xA9><\xFF>", 0}, {``, "\xFF\xC3", "-", "-\xFF-\xC3-", 0}, {`\x{FFFD}`, "a\xFFb\xC3", "?", "a?b?", 0}, {`\x{FFFD}`, "\xFF\xEF\xBF\xBD", "<$0>", "<\xFF><\xEF\xBF\xBD>", 0}, {`a`, "\xFFa\xFE", "\xFD$0", "\xFF\xFDa\xFE", 0}, {`é`, "\xC3\xA9\xC3\xC3\xA9", "", "\xC3", 0}, {`a`, "bab", "\xC3", "b\xC3b", 0}, {`b`, "\xC3b\xA9", "", "\xC3\xA9", 0}, {`é|b`, "éab\xff", "$0$0", "ééabb\xff", 0},
		// What is put there is not looked at again, nor what it makes together with its neighbours.
		{`a`, "aa", "aa", "aaaa", 0}, {`ab`, "aabb", "", "ab", 0}, {`a`, "a", "$$0", "$0", 0}, {`a`, "$a", "0", "$0", 0}, {`\$`, "$0$1", "$$", "$0$1", 0}, {`(.)`, "$1", "$1$1", "$$11", 0}, {`.`, "ab", "$$$0", "$a$b", 0}, {`(.+)`, "${x}", "$1", "${x}", 0},
		// What holds at a place is asked of the bytes as they were.
		{`^a`, "aaa", "", "aa", 0}, {`\ba`, "aaa", "", "aa", 0}, {`\Ba`, "aaa", "-", "a--", 0},
	} {
		wantAll(t, x.pattern, []byte(x.text), x.template, x.want)
	}
	for _, template := range []string{"", "x", "$0"} {
		wantAll(t, `a`, nil, template, "")
	}
}

// TestMeaningOfTemplate: P17.3: All is by the template that Read reads: what Expand tells of each match stands in its place.
func TestMeaningOfTemplate(t *testing.T) {
	for _, pattern := range []string{first, `(a)|(?P<x>b)|-`, `(?P<x>\w)(\w)?`, `(a*)(?P<x>b*)`} {
		for _, template := range []string{"", "z", "$0", "<$1>", "${x}$1", "$2$2$$", "-$$-${01}-"} {
			for _, text := range []string{"", "-", firstBytes, "abba ab", "bb\xFFaé"} {
				for _, r := range byEach(t, made(t, pattern)) {
					x, b := read(t, r, template), []byte(text)
					var want []byte
					at := 0
					for _, caps := range matchesOf(t, r, b, -1) {
						one, errno := x.Expand(b, caps)
						if errno != api.OK {
							t.Fatalf("%q in %q: %d", pattern, text, errno)
						}
						want = append(append(want, b[at:caps[0]]...), one...)
						at = caps[1]
					}
					if got := allOf(t, r, b, template); !bytes.Equal(got, append(want, b[at:]...)) {
						t.Errorf("%q in %q by %q: %q; want %q", pattern, text, template, got, want)
					}
					wantModel(t, r, b, template)
				}
			}
		}
	}
}

// forThereAndBack are patterns that find something with bytes, without, often, seldom.
func forThereAndBack() []string {
	return []string{``, `a`, `a*`, `b+?`, `(a)|(b)`, `\b`, `^|$`, `.`, `[^a]`, `(?s:.*)`, `\A`, `\Aa*`, `\z`, `é`, `\x{FFFD}`, `(a*)(b*)`, `z`, `(|a)*`, `\w+`, `,\x{20}?`}
}

// textsThereAndBack are bytes for these.
func textsThereAndBack() []string {
	return []string{"", "a", "b", "ab", "baac", "aab-a", "a, b,c", "\n\na\n", "é\xC3é\xFF", "$0${x}$", "ab ba", strings.Repeat("ab-é\xFF ", 700)}
}

// TestThereAndBack: P17.6, T7: by `$0` it stays what it is; pieces and matches are the bytes; by a template without groups it is the pieces with the template's bytes between.
func TestThereAndBack(t *testing.T) {
	for _, pattern := range forThereAndBack() {
		for _, text := range textsThereAndBack() {
			b := []byte(text)
			for _, r := range byEach(t, made(t, pattern)) {
				for _, whole := range []string{"$0", "${0}", "$00", "${000}"} {
					if got := allOf(t, r, b, whole); !bytes.Equal(got, b) {
						t.Errorf("%q in %s by %q: %s", pattern, shown(b), whole, shown(got))
					}
				}
				l, matches := splitOf(t, r, b, -1), matchesOf(t, r, b, -1)
				if len(l) != len(matches)+1 {
					t.Fatalf("%q in %s: %d pieces, %d matches", pattern, shown(b), len(l), len(matches))
				}
				back := bytes.Clone(l[0])
				for i, caps := range matches {
					back = append(append(back, b[caps[0]:caps[1]]...), l[i+1]...)
				}
				if !bytes.Equal(back, b) {
					t.Errorf("%q in %s: %s", pattern, shown(b), shown(back))
				}
				for _, x := range []struct{ template, stands string }{{"", ""}, {"x", "x"}, {"$$", "$"}, {"a$$b\xFF", "a$b\xFF"}} {
					if got := allOf(t, r, b, x.template); !bytes.Equal(got, bytes.Join(l, []byte(x.stands))) {
						t.Errorf("%q in %s by %q: %s", pattern, shown(b), x.template, shown(got))
					}
				}
			}
		}
	}
}

// TestBetweenStays: P17.7: what stands between matches stays: with what was put there taken out again, by how long each is, the pieces are left.
func TestBetweenStays(t *testing.T) {
	for _, pattern := range forThereAndBack() {
		for _, text := range textsThereAndBack() {
			b := []byte(text)
			for _, template := range []string{"<$0>", "$0$0", "", "ab$$"} {
				r := made(t, pattern)
				x, rest := read(t, r, template), allOf(t, r, b, template)
				var left [][]byte
				at := 0
				for _, caps := range matchesOf(t, r, b, -1) {
					one, _ := x.Expand(b, caps)
					size := caps[0] - at
					left = append(left, rest[:size])
					if !bytes.HasPrefix(rest[size:], one) {
						t.Fatalf("%q in %s by %q: %q is not there", pattern, shown(b), template, one)
					}
					rest, at = rest[size+len(one):], caps[1]
				}
				if left = append(left, rest); !samePieces(left, splitOf(t, r, b, -1)) {
					t.Errorf("%q in %s by %q: %s", pattern, shown(b), template, shownAll(left))
				}
			}
		}
	}
}

// TestOrderOfErrors: P17.3, W4: of several errors: too many bytes, of either, ahead of a template that may not be, that ahead of what the search refuses, that ahead of an answer that is too great.
func TestOrderOfErrors(t *testing.T) {
	const long = api.MaxText
	b, text := many(long+1, "a"), strings.Repeat("a", long+1)
	for _, r := range byEach(t, made(t, `\Aa`)) {
		wantAllRefused(t, r, b, "x", api.ErrLong)
		wantAllRefused(t, r, b, "$", api.ErrLong)
		wantAllRefused(t, r, b, text, api.ErrLong)
		wantAllRefused(t, r, nil, text, api.ErrLong)
		wantAllRefused(t, r, b[:long], text, api.ErrLong)
		wantAllRefused(t, r, b[:long], strings.Repeat("$", long+1), api.ErrLong)
		wantAllRefused(t, r, b[:long], "$1", api.ErrReplace)
		wantAllRefused(t, r, b[:long], text[:long-1]+"$", api.ErrReplace)
		wantAllRefused(t, r, b[:long], "aa", api.ErrBig)
	}
	// The map is too small: 4 instructions, 2^22 + 1 places.
	small := with(t, made(t, `a`), 2)
	if _, errno := small.All(b[:long], -1); errno != api.ErrBig {
		t.Fatalf("%d", errno)
	}
	wantAllRefused(t, small, b[:long], "$", api.ErrReplace)
	wantAllRefused(t, small, b[:long], "${x}", api.ErrReplace)
	wantAllRefused(t, small, b[:long], "", api.ErrBig)
	wantAllRefused(t, small, b[:long], "x", api.ErrBig)
	wantAllRefused(t, small, b[:long], "xx", api.ErrBig)
	if got := allOf(t, small, b[:long-1], ""); len(got) != 0 {
		t.Errorf("%s", shown(got))
	}
	for _, engine := range []int{0, 1, 4} {
		if got := allOf(t, with(t, small, engine), b[:long], "$0"); !bytes.Equal(got, b[:long]) {
			t.Errorf("by %d: %s", engine, shown(got))
		}
	}
}

// TestGreatAnswers: P17.3: answers of MaxText bytes and one more: of one match, of many, and with much between; it is what comes out that counts, not what stands on the way.
func TestGreatAnswers(t *testing.T) {
	const long = api.MaxText
	text := strings.Repeat("x", long)
	for _, x := range []struct {
		name, pattern string
		b             []byte
		template      string
		size          int // long + 1: or more
	}{
		{"one match, all of the template", `a`, []byte("a"), text, long},
		{"one match, a byte behind", `a`, []byte("ab"), text, long + 1},
		{"one match, a byte ahead", `a`, []byte("ba"), text, long + 1},
		{"one match, a byte behind, one less", `a`, []byte("ab"), text[1:], long},
		{"an empty match", `\A`, nil, text, long},
		{"an empty match in a byte", `\A`, []byte("b"), text, long + 1},
		{"two halves", `a`, []byte("aa"), text[:long/2], long},
		{"two halves and a byte", `a`, []byte("aba"), text[:long/2], long + 1},
		{"nothing found", `a`, many(long, "b"), text, long},
		{"one in much", `a`, append(many(long-1, "b"), 'a'), "c", long},
		{"one in much, two bytes", `a`, append(many(long-1, "b"), 'a'), "cc", long + 1},
		{"one in much, taken out and put in", `a`, append(many(long-1, "b"), 'a'), "$0", long},
		{"each", `b`, many(long, "b"), "c", long},
		{"each twice", `b`, many(long/2, "b"), "$0$0", long},
		{"each twice and one", `b`, many(long/2+1, "b"), "$0$0", long + 2},
		{"all twice", `b*`, many(long/2, "b"), "$0$0", long},
		{"all twice, and one", `b*`, many(long/2, "b"), "$0$0c", long + 1},
		{"between all", ``, many(long/2, "b"), "c", long + 1},
		{"between all, one less", ``, many(long/2-1, "b"), "c", long - 1},
		{"taken out, much put in", `(a+)(b)`, append(many(long-2, "a"), 'b', 'c'), "$2$2$2$1", long + 2},
		{"taken out, as much put in", `(a+)(b)`, append(many(long-2, "a"), 'b', 'c'), "$2$1", long},
		{"many times much", `a`, many(1<<11, "a"), strings.Repeat("$0", 1<<11), long},
		{"many times much, and a byte", `a`, append(many(1<<11, "a"), 'b'), strings.Repeat("$0", 1<<11), long + 1},
		{"very many times very much", ``, many(long, "a"), text, long + 1},
		{"very much of all", `a*`, many(long, "a"), strings.Repeat("$0", long/2), long + 1},
	} {
		r := made(t, x.pattern)
		got, errno := replace.All(r, x.b, x.template)
		if x.size > long {
			if errno != api.ErrBig || len(got) > 0 {
				t.Errorf("%s: %d bytes, %d; want %d", x.name, len(got), errno, api.ErrBig)
			}
			continue
		}
		if errno != api.OK || len(got) != x.size {
			t.Errorf("%s: %d bytes, %d; want %d", x.name, len(got), errno, x.size)
			continue
		}
		if parts, may := modelRead(r, x.template); !may || !bytes.Equal(got, modelAll(parts, x.b, matchesOf(t, r, x.b, -1))) {
			t.Errorf("%s: %s", x.name, shown(got))
		}
	}
}

// TestEachEngine: P17.3, P17.4: whichever engine searches, it is the same.
func TestEachEngine(t *testing.T) {
	for _, text := range []string{"", "ab", strings.Repeat("ab-", 1500)} {
		for _, pattern := range []string{`\A(a)(?P<x>b)?`, `\A(?:ab-)*`, `(a)(?P<x>b)`, `b*`} {
			var answers, halves [][]byte
			for _, r := range byEach(t, made(t, pattern)) {
				answers = append(answers, allOf(t, r, []byte(text), "<$0>"))
				halves = append(halves, bytes.Join(splitOf(t, r, []byte(text), 3), []byte("|")))
			}
			for _, l := range [][][]byte{answers, halves} {
				if len(slices.CompactFunc(l, bytes.Equal)) != 1 {
					t.Errorf("%q in %s: %s", pattern, shown(text), shownAll(l))
				}
			}
		}
	}
}
