package replace_test

import (
	"bytes"
	"slices"
	"strings"
	"testing"

	"heron/api"
)

// TestExpand: P17.2: the chapter's example, and others: the parts one behind the other, groups as often as they stand there, nothing of those that were not met.
func TestExpand(t *testing.T) {
	b := []byte(firstBytes)
	all := []int{0, 3, 0, 2, 2, 3}
	for _, x := range []struct {
		template string
		caps     []int
		want     string
	}{
		{"$1-${x}", all, "aa-b"}, {"$1-${x}", []int{-1, -1, 5, 5, 0, 5}, "-aab-a"}, {"$1-${x}", []int{-1, -1, -1, -1, -1, -1}, "-"},
		{"", all, ""}, {"", []int{-1, -1, -1, -1, -1, -1}, ""}, {"$0", all, "aab"}, {"$0", []int{5, 5, 0, 5, 0, 0}, ""}, {"$0", []int{-1, -1, 0, 5, 0, 0}, ""},
		{"$0$0$1${x}$2$0", all, "aabaabaabbaab"}, {"$$", all, "$"}, {"$$1", all, "$1"}, {"$$$1$$", all, "$aa$"}, {"<$1>", all, "<aa>"}, {"$01$002${0}", all, "aabaab"}, {"$1x", all, "aax"}, {"${1}1", all, "aa1"}, {"{$1}", all, "{aa}"}, {`\$1`, all, `\aa`}, {"\xFF$1\x00", all, "\xFFaa\x00"},
		// Groups that lie anywhere: behind the whole, over one another, at the edges.
		{"$1$2", []int{1, 1, 3, 5, 0, 5}, "-aaab-a"}, {"$1", []int{0, 0, 0, 5, -1, -1}, "aab-a"}, {"$2$1", []int{0, 0, 4, 5, 3, 4}, "-a"}, {"$2", []int{0, 0, 0, 0, 5, 5}, ""},
	} {
		wantExpanded(t, read(t, made(t, first), x.template), b, x.caps, x.want, api.OK)
	}
	// Without bytes, and without groups.
	wantExpanded(t, read(t, made(t, `a`), "-$0-"), nil, []int{0, 0}, "--", api.OK)
	wantExpanded(t, read(t, made(t, `a`), "-$0-"), []byte{}, []int{-1, -1}, "--", api.OK)
	wantExpanded(t, read(t, made(t, `a`), "-$0-"), []byte("éa"), []int{1, 2}, "-\xA9-", api.OK)
}

// TestCaptures: P17.2: captures that may not be, whatever the template says of their groups: too few and too many, one of two -1, a beginning behind its end, an end behind the bytes, below -1.
func TestCaptures(t *testing.T) {
	b := []byte(firstBytes)
	for _, template := range []string{"$1-${x}", "$0$1$2", "", "-", "$0"} {
		x := read(t, made(t, first), template)
		for _, caps := range [][]int{
			nil, {}, {0}, {0, 3}, {0, 3, 0}, {0, 3, 0, 2}, {0, 3, 0, 2, 2}, {0, 3, 0, 2, 2, 3, 0}, {0, 3, 0, 2, 2, 3, 0, 0}, {0, 3, 0, 2, 2, 3, -1, -1},
			{0, -1, 0, 2, 2, 3}, {-1, 0, 0, 2, 2, 3}, {0, 3, 1, -1, 2, 3}, {0, 3, -1, 1, 2, 3}, {0, 3, 0, 2, -1, 3}, {0, 3, 0, 2, 2, -1}, {-1, 5, -1, -1, -1, -1},
			{3, 0, 0, 2, 2, 3}, {0, 3, 2, 0, 2, 3}, {0, 3, 0, 2, 3, 2}, {0, 3, 0, 2, 5, 4}, {1, 0, 1, 0, 1, 0},
			{0, 6, 0, 2, 2, 3}, {0, 9, 0, 2, 2, 3}, {6, 6, 0, 2, 2, 3}, {0, 3, 0, 6, 2, 3}, {0, 3, 0, 2, 2, 6}, {0, 3, 0, 2, 6, 6}, {0, 3, 0, 2, 2, most}, {0, 3, 0, 2, most, most},
			{-2, -2, 0, 2, 2, 3}, {-2, 3, 0, 2, 2, 3}, {0, 3, -2, -1, 2, 3}, {0, 3, -1, -2, 2, 3}, {0, 3, 0, 2, -2, 3}, {0, 3, 0, 2, -5, -3}, {least, least, 0, 2, 2, 3}, {0, 3, 0, 2, least, 3}, {0, 3, 0, 2, 2, least}, {0, 3, 0, 2, most, least}, {-2, 0, -1, -1, -1, -1},
		} {
			if modelMayBe(2, len(b), caps) {
				t.Fatalf("%v may be", caps)
			}
			wantExpanded(t, x, b, caps, "", api.ErrArg)
		}
		for _, caps := range [][]int{{0, 3, 0, 2, 2, 3}, {-1, -1, -1, -1, -1, -1}, {0, 5, 0, 0, 5, 5}, {-1, -1, 0, 5, -1, -1}, {5, 5, 0, 1, 4, 5}} {
			if got, errno := x.Expand(b, caps); errno != api.OK {
				t.Errorf("%q, %v: %q, %d", template, caps, got, errno)
			}
		}
	}
	// It is the bytes that are handed in in which they must lie.
	x := read(t, made(t, `a`), "$0")
	wantExpanded(t, x, b[:2], []int{0, 3}, "", api.ErrArg)
	wantExpanded(t, x, nil, []int{0, 1}, "", api.ErrArg)
	wantExpanded(t, x, nil, []int{1, 1}, "", api.ErrArg)
	wantExpanded(t, x, b[:3], []int{0, 3}, "aab", api.OK)
}

// TestSmallCaptures: P17.2: all captures of small numbers, of one group: which of them may be, and what they put there.
func TestSmallCaptures(t *testing.T) {
	r := made(t, `(a)`)
	const text = "[$1$0]"
	x := read(t, r, text)
	parts, _ := modelRead(r, text)
	b := []byte("xyz")
	count := 0
	for n := range 7 * 7 * 7 * 7 {
		caps := []int{n%7 - 2, n/7%7 - 2, n/49%7 - 2, n/343 - 2}
		if modelMayBe(1, len(b), caps) {
			count++
			wantExpanded(t, x, b, caps, string(modelExpand(parts, b, caps)), api.OK)
		} else {
			wantExpanded(t, x, b, caps, "", api.ErrArg)
		}
	}
	if count != 11*11 {
		t.Errorf("%d may be", count)
	}
}

// TestManyCaptures: P17.2: as many groups as there may be: each of the captures counts.
func TestManyCaptures(t *testing.T) {
	x := read(t, made(t, strings.Repeat(`(a)`, api.MaxGroups)), "$500$1$250")
	fine := slices.Repeat([]int{0, 1}, api.MaxGroups+1)
	fine[2], fine[3], fine[500], fine[501], fine[1000], fine[1001] = 1, 2, 2, 3, 3, 4
	b := []byte("abcd")
	wantExpanded(t, x, b, fine, "dbc", api.OK)
	for i := range fine {
		for _, wrong := range []int{-1, -2, 5} {
			caps := slices.Clone(fine)
			caps[i] = wrong
			wantExpanded(t, x, b, caps, "", api.ErrArg)
		}
	}
	wantExpanded(t, x, b, fine[2:], "", api.ErrArg)
	wantExpanded(t, x, b, fine[:len(fine)-2], "", api.ErrArg)
	wantExpanded(t, x, b, append(slices.Clone(fine), 0, 1), "", api.ErrArg)
}

// TestLongExpand: P17.2, W4, W7: bytes of MaxText and one more; answers of MaxText bytes and one more; which error comes first.
func TestLongExpand(t *testing.T) {
	const long = api.MaxText
	b := many(long+1, "b")
	r := made(t, `(a)`)
	for _, template := range []string{"", "$0", "$1$1"} {
		x := read(t, r, template)
		// Too many bytes come ahead of captures that may not be, and of an answer that is too great.
		wantExpanded(t, x, b, []int{0, 1, 0, 1}, "", api.ErrLong)
		wantExpanded(t, x, b, []int{0, 1}, "", api.ErrLong)
		wantExpanded(t, x, b, nil, "", api.ErrLong)
		wantExpanded(t, x, b, []int{0, long + 1, 0, long + 1}, "", api.ErrLong)
		wantExpanded(t, x, b[:long], []int{0, 1, 0, long + 1}, "", api.ErrArg)
		wantExpanded(t, x, b[:long], []int{long, long, long, long}, "", api.OK)
	}
	for _, one := range []struct {
		template string
		whole, k int // how many bytes the groups have, for MaxText in all
		last     int // by how many these rise, if group 1 has one more
	}{
		{"$1", 0, long, 1}, {"$1$1", 0, long / 2, 2}, {"$1-", 0, long - 1, 1}, {"$0$1", long - 5, 5, 1}, {"$1$0$1$1", long - 300, 100, 3}, {"$$$1$$", 7, long - 2, 1}, {strings.Repeat("$1", 1<<11), 3, 1 << 11, 1 << 11}, {strings.Repeat("a", long-2) + "$1", 9, 2, 1}, {strings.Repeat("a", long-20) + "$0$1", 10, 10, 1},
	} {
		x := read(t, r, one.template)
		got, errno := x.Expand(b[:long], []int{0, one.whole, 0, one.k})
		if errno != api.OK || len(got) != long {
			t.Errorf("%s: %d bytes, %d", shown(one.template), len(got), errno)
		}
		if one.k < long {
			wantExpanded(t, x, b[:long], []int{0, one.whole, 0, one.k + 1}, "", api.ErrBig)
		}
		if got, errno := x.Expand(b[:long], []int{0, one.whole, 0, one.k - 1}); errno != api.OK || len(got) != long-one.last {
			t.Errorf("%s: %d bytes, %d", shown(one.template), len(got), errno)
		}
		// That captures may not be comes ahead of it.
		wantExpanded(t, x, b[:long], []int{0, long, 0, long + 1}, "", api.ErrArg)
		wantExpanded(t, x, b[:long], []int{0, long, 0, long, 0, 0}, "", api.ErrArg)
	}
	// The greatest answers of all: 2^21 times 2^22 bytes, more than 32 bits hold, and a number of which they hold 0.
	x := read(t, r, strings.Repeat("$1", long/2))
	wantExpanded(t, x, b[:long], []int{0, 0, 0, long}, "", api.ErrBig)
	wantExpanded(t, x, b[:long], []int{0, 0, 0, 1 << 11}, "", api.ErrBig)
	wantExpanded(t, x, b[:long], []int{0, 0, 0, 2}, string(b[:long]), api.OK)
	wantExpanded(t, x, b[:long], []int{0, 0, 0, 3}, "", api.ErrBig)
	wantExpanded(t, x, b[:long], []int{0, long, 0, 0}, "", api.OK)
	wantExpanded(t, x, b[:long], []int{0, long, -1, -1}, "", api.OK)
	// A template alone is never too great.
	wantExpanded(t, read(t, r, string(b[:long])), nil, []int{0, 0, 0, 0}, string(b[:long]), api.OK)
}

// TestWithin: P17.8: bytes outside of the captures are of no matter, nor how many there are; those of groups that the template has not, neither.
func TestWithin(t *testing.T) {
	x := read(t, made(t, first), "<$1|${x}>")
	b := []byte("xxaaxbyy")
	caps := []int{2, 6, 2, 4, 5, 6}
	wantExpanded(t, x, b, caps, "<aa|b>", api.OK)
	for c := range 256 {
		other := bytes.Clone(b)
		for _, i := range []int{0, 1, 4, 6, 7} {
			other[i] = byte(c)
		}
		wantExpanded(t, x, other, caps, "<aa|b>", api.OK)
		wantExpanded(t, x, other[:6], caps, "<aa|b>", api.OK)
		wantExpanded(t, x, append(other, other...), caps, "<aa|b>", api.OK)
		other[2], other[3], other[5] = byte(c), byte(c+1), byte(c+2)
		wantExpanded(t, x, other, caps, "<"+string(other[2:4])+"|"+string(other[5:6])+">", api.OK)
	}
}
