package literal_test

import (
	"runtime"
	"slices"
	"testing"

	"heron/api"
	"heron/literal"
)

// TestGreatestRows: P15.2, P15.3: rows of MaxText runes, in texts that are one shorter, as long, one longer, and far longer than MaxText.
func TestGreatestRows(t *testing.T) {
	text := many(2*api.MaxText+5, int('a'))
	f := made(t, text[:api.MaxText])
	for _, x := range []struct{ length, at, want int }{
		{0, 0, -1}, {1, 0, -1}, {api.MaxText - 1, 0, -1}, {api.MaxText, 0, 0}, {api.MaxText, 1, -1}, {api.MaxText, api.MaxText, -1}, {api.MaxText, api.MaxText + 1, -1}, {api.MaxText, -1, -1},
		{api.MaxText + 1, 0, 0}, {api.MaxText + 1, 1, 1}, {api.MaxText + 1, 2, -1}, {2*api.MaxText + 5, api.MaxText + 5, api.MaxText + 5}, {2*api.MaxText + 5, api.MaxText + 6, -1}, {2*api.MaxText + 5, 2*api.MaxText + 6, -1},
	} {
		if place := f.Next(text[:x.length], x.at); place != x.want {
			t.Errorf("in %d runes from %d: %d; want %d", x.length, x.at, place, x.want)
		}
	}
	// One other rune, ahead of which it cannot stand.
	text[api.MaxText] = 'b'
	for _, x := range []struct{ at, want int }{{0, 0}, {1, api.MaxText + 1}, {api.MaxText + 1, api.MaxText + 1}, {api.MaxText + 5, api.MaxText + 5}, {api.MaxText + 6, -1}} {
		if place := f.Next(text, x.at); place != x.want {
			t.Errorf("from %d: %d; want %d", x.at, place, x.want)
		}
	}
	row := slices.Clone(text[:api.MaxText])
	row[api.MaxText-1] = 'b'
	wantNext(t, row, text, 0, 1)
	wantNext(t, row, text, 2, -1)
	row[0] = 'b'
	wantNext(t, row, text, 0, -1)
	row[api.MaxText-1] = 'a'
	wantNext(t, row, text, 0, api.MaxText)
}

// TestGreatestTexts: P15.3: texts of MaxText runes, of one more and of many more, in which a row stands at the end, at the beginning, or nowhere; a row of no runes; places at the text's edges.
func TestGreatestTexts(t *testing.T) {
	for _, length := range []int{api.MaxText - 1, api.MaxText, api.MaxText + 1, 3 * api.MaxText} {
		text := make([]int, length)
		text[0], text[length-2], text[length-1] = 7, 8, 9
		for _, x := range []struct {
			lit      []int
			at, want int
		}{
			{nil, 0, 0}, {nil, length - 1, length - 1}, {nil, length, length}, {nil, length + 1, -1}, {nil, -1, -1},
			{[]int{8, 9}, 0, length - 2}, {[]int{8, 9}, length - 2, length - 2}, {[]int{8, 9}, length - 1, -1}, {[]int{9}, 0, length - 1}, {[]int{9}, length - 1, length - 1}, {[]int{9}, length, -1}, {[]int{9}, length + 1, -1},
			{[]int{7, 0}, 0, 0}, {[]int{7}, 1, -1}, {[]int{9, 0}, 0, -1}, {[]int{0, 9}, 0, -1}, {[]int{0, 8, 9}, 0, length - 3},
		} {
			wantNext(t, x.lit, text, x.at, x.want)
		}
	}
}

// TestNotGoneBack: P15.3, T4: rows that nearly stand at each place of a long text: to go back in it at each would take days.
func TestNotGoneBack(t *testing.T) {
	const length, half = api.MaxText, api.MaxText / 2
	some := many(length, int('a'))
	// Of one rune, but for the last one, the first one, and one between.
	for _, other := range []int{half - 1, 0, half / 2} {
		lit := slices.Clone(some[:half])
		lit[other] = 'b'
		wantNext(t, lit, some, 0, -1)
		text := slices.Clone(some)
		text[length-half+other] = 'b'
		wantNext(t, lit, text, 0, length-half)
	}
	// By turns, and with something else behind it.
	turns := many2(half, 'a', 'b')
	wantNext(t, append(slices.Clone(turns[:half]), 'c'), turns, 0, -1)
	wantNext(t, append(slices.Clone(turns[:half]), 'c'), append(slices.Clone(turns), 'c'), 0, half)
	wantNext(t, append([]int{'b'}, turns[:half]...), turns, 0, 1)
	wantNext(t, append([]int{'b', 'b'}, turns[:half]...), turns, 0, -1)
	// The row's beginnings come again by turns of all lengths, and each nearly stands.
	words := [][]int{{'a'}, {'a', 'b'}}
	for len(words[len(words)-1]) < half {
		words = append(words, slices.Concat(words[len(words)-1], words[len(words)-2]))
	}
	word := words[len(words)-1]
	wantNext(t, append(slices.Clone(word), 'c'), slices.Concat(word, word, word), 0, -1)
	wantNext(t, append(slices.Clone(word), 'c'), append(slices.Concat(word, word), 'c'), 0, len(word))
	// It often nearly stands, and something else follows.
	text := slices.Repeat(append(many(1000, int('a')), 'b'), 4000)
	wantNext(t, many(1001, int('a')), text, 0, -1)
	wantNext(t, append(many(1000, int('a')), 'c'), text, 0, -1)
}

// TestAllOfLongText: P15.6: all places of a long text, at each second one of which the row stands.
func TestAllOfLongText(t *testing.T) {
	text := many2(500000, 'a', 'b')
	f := made(t, runesOf("abab"))
	told := toldPlaces(f, text)
	if len(told) != 499999 {
		t.Fatalf("%d places", len(told))
	}
	for i, place := range told {
		if place != 2*i {
			t.Fatalf("%d: %d", i, place)
		}
	}
}

// allocated is how much memory a function asks for.
func allocated(f func()) uint64 {
	var before, after runtime.MemStats
	runtime.ReadMemStats(&before)
	f()
	runtime.ReadMemStats(&after)
	return after.TotalAlloc - before.TotalAlloc
}

// TestMemory: to ask needs no memory, however long the text; a row that is refused needs none either.
func TestMemory(t *testing.T) {
	text := many(1000000, int('a'))
	f := made(t, append(many(1000, int('a')), 'b'))
	if used := allocated(func() { f.Next(text, 0) }); used > 10000 {
		t.Errorf("Next: %d bytes", used)
	}
	long := make([]int, api.MaxText+1)
	if used := allocated(func() { literal.New(long) }); used > 10000 {
		t.Errorf("New: %d bytes", used)
	}
}
