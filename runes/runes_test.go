package runes_test

import (
	"bytes"
	"math"
	"slices"
	"testing"
	"unicode/utf8"

	"heron/api"
	"heron/runes"
)

// edgeBytes are those at which it changes what a byte can begin, or how one can go on.
var edgeBytes = []byte{
	0x00, 0x0A, 0x41, 0x61, 0x7F, 0x80, 0x81, 0x8F, 0x90, 0x9F, 0xA0, 0xA9, 0xAC, 0xBD, 0xBE, 0xBF,
	0xC0, 0xC1, 0xC2, 0xC3, 0xDF, 0xE0, 0xE1, 0xE2, 0xEC, 0xED, 0xEE, 0xEF,
	0xF0, 0xF1, 0xF3, 0xF4, 0xF5, 0xF7, 0xF8, 0xFC, 0xFE, 0xFF,
}

// eachRow calls f with every row of n of some bytes.
func eachRow(some []byte, n int, f func([]byte)) {
	row := make([]byte, n)
	var fill func(int)
	fill = func(i int) {
		if i == n {
			f(row)
			return
		}
		for _, c := range some {
			row[i] = c
			fill(i + 1)
		}
	}
	fill(0)
}

// domain tells of the chapter's words whether a number is of the domain.
func domain(r int) bool { return r >= 0 && r <= 0x10FFFF && (r < 0xD800 || r > 0xDFFF) }

// P1.1: the chapter's examples, and other edges.
func TestDecodeExamples(t *testing.T) {
	for _, c := range []struct {
		b          string
		rune, size int
	}{
		{"", 0, 0}, {"\x00", 0, 1}, {"a", 0x61, 1}, {"\x7F", 0x7F, 1},
		{"\xC3\xA9a", 0xE9, 2}, {"\xC2\x80", 0x80, 2}, {"\xDF\xBF", 0x7FF, 2},
		{"\xE2\x82\xAC", 0x20AC, 3}, {"\xE0\xA0\x80", 0x800, 3}, {"\xED\x9F\xBF", 0xD7FF, 3},
		{"\xEE\x80\x80", 0xE000, 3}, {"\xEF\xBF\xBD", 0xFFFD, 3}, {"\xEF\xBF\xBF", 0xFFFF, 3},
		{"\xF0\x90\x80\x80", 0x10000, 4}, {"\xF4\x8F\xBF\xBF", 0x10FFFF, 4},
		{"\xC3", 0xFFFD, 1}, {"\x80", 0xFFFD, 1}, {"\xC0\x80", 0xFFFD, 1}, {"\xC1\xBF", 0xFFFD, 1},
		{"\xE0\x9F\xBF", 0xFFFD, 1}, {"\xED\xA0\x80", 0xFFFD, 1}, {"\xED\xBF\xBF", 0xFFFD, 1},
		{"\xF0\x8F\xBF\xBF", 0xFFFD, 1}, {"\xF4\x90\x80\x80", 0xFFFD, 1}, {"\xF5\x80\x80\x80", 0xFFFD, 1},
		{"\xE2\x82", 0xFFFD, 1}, {"\xE2\x82a", 0xFFFD, 1}, {"\xE2\x82\xC3", 0xFFFD, 1},
		{"\xF0\x9F\x98", 0xFFFD, 1}, {"\xF8\x88\x80\x80\x80", 0xFFFD, 1}, {"\xFF", 0xFFFD, 1}, {"\xBF", 0xFFFD, 1},
	} {
		if r, n := runes.Decode([]byte(c.b)); r != c.rune || n != c.size {
			t.Errorf("Decode(%x) = %x, %d; want %x, %d", c.b, r, n, c.rune, c.size)
		}
	}
}

// P1.1: every row of up to four edge bytes, held against the library.
func TestDecodeRows(t *testing.T) {
	for n := 1; n <= 4; n++ {
		eachRow(edgeBytes, n, func(row []byte) {
			want, size := utf8.DecodeRune(row)
			if r, n := runes.Decode(row); r != int(want) || n != size {
				t.Fatalf("Decode(%x) = %x, %d; want %x, %d", row, r, n, want, size)
			}
		})
	}
}

// P1.1, P1.3, P1.8: each rune of the domain has its bytes, there and back.
func TestEveryRune(t *testing.T) {
	for r := 0; r <= api.MaxRune; r++ {
		b, e := runes.Encode([]int{r})
		if !domain(r) {
			if b != nil || e != api.ErrRunesRange {
				t.Fatalf("Encode(%x) = %x, %d", r, b, e)
			}
			continue
		}
		if e != api.OK || string(b) != string(rune(r)) {
			t.Fatalf("Encode(%x) = %x, %d", r, b, e)
		}
		if back, n := runes.Decode(b); back != r || n != len(b) {
			t.Fatalf("Decode(%x) = %x, %d", b, back, n)
		}
		for n := 1; n < len(b); n++ {
			if back, size := runes.Decode(b[:n]); back != 0xFFFD || size != 1 {
				t.Fatalf("Decode(%x) = %x, %d", b[:n], back, size)
			}
		}
	}
}

// P1.2: the chapter's examples.
func TestCutExamples(t *testing.T) {
	for _, c := range []struct {
		b            string
		list, places []int
	}{
		{"", nil, []int{0}},
		{"\xEF\xBF\xBD", []int{0xFFFD}, []int{0, 3}},
		{"a\xE2\x82b\xC3\xA9", []int{0x61, 0xFFFD, 0xFFFD, 0x62, 0xE9}, []int{0, 1, 2, 3, 4, 6}},
		{"\xF4\x90\x80\x80", []int{0xFFFD, 0xFFFD, 0xFFFD, 0xFFFD}, []int{0, 1, 2, 3, 4}},
		{"\xF0\x9F\x98\x80\n\xC3", []int{0x1F600, 10, 0xFFFD}, []int{0, 4, 5, 6}},
	} {
		if l, p := runes.Cut([]byte(c.b)); !slices.Equal(l, c.list) || !slices.Equal(p, c.places) {
			t.Errorf("Cut(%x) = %x, %v; want %x, %v", c.b, l, p, c.list, c.places)
		}
	}
}

// P1.2: Cut is Decode at the head, then behind it; no length is too great for it.
func TestCutIsDecode(t *testing.T) {
	check := func(b []byte) {
		l, p := runes.Cut(b)
		if len(p) != len(l)+1 || p[len(l)] != len(b) {
			t.Fatalf("Cut of %d bytes: %d runes, %d places", len(b), len(l), len(p))
		}
		for i, r := range l {
			if want, size := runes.Decode(b[p[i]:]); r != want || p[i]+size != p[i+1] {
				t.Fatalf("Cut of %d bytes: at %d %x, next %d", len(b), p[i], r, p[i+1])
			}
		}
	}
	eachRow(edgeBytes, 3, check)
	check(bytes.Repeat([]byte("a\xC3\xA9"), api.MaxText/3+1))
	check(make([]byte, api.MaxText+1))
}

// P1.3: the chapter's examples, both limits, and wrong runes.
func TestEncode(t *testing.T) {
	if b, e := runes.Encode([]int{0x61, 0xE9, 0xFFFD, 0x10FFFF}); string(b) != "a\xC3\xA9\xEF\xBF\xBD\xF4\x8F\xBF\xBF" || e != api.OK {
		t.Errorf("Encode = %x, %d", b, e)
	}
	if b, e := runes.Encode(nil); len(b) != 0 || e != api.OK {
		t.Errorf("Encode of none = %x, %d", b, e)
	}
	if b, e := runes.Encode([]int{0xD7FF, 0xE000}); string(b) != "\xED\x9F\xBF\xEE\x80\x80" || e != api.OK {
		t.Errorf("Encode = %x, %d", b, e)
	}
	for _, r := range []int{-1, 0xD800, 0xDBFF, 0xDC00, 0xDFFF, 0x110000, math.MaxInt, math.MinInt, 1<<32 + 'a'} {
		for _, l := range [][]int{{r}, {'a', r}, {r, 'a'}} {
			if b, e := runes.Encode(l); b != nil || e != api.ErrRunesRange {
				t.Errorf("Encode(%x) = %x, %d", l, b, e)
			}
		}
	}
}

// P1.3: MaxText runes are fine, one more is too long, whatever they are.
func TestEncodeLimit(t *testing.T) {
	l := slices.Repeat([]int{0x10FFFF}, api.MaxText+1)
	if b, e := runes.Encode(l[:api.MaxText]); len(b) != 4*api.MaxText || e != api.OK {
		t.Errorf("Encode of MaxText runes: %d bytes, %d", len(b), e)
	}
	if b, e := runes.Encode(l); b != nil || e != api.ErrLong {
		t.Errorf("Encode of one more: %d bytes, %d", len(b), e)
	}
	l[0] = -1
	if b, e := runes.Encode(l); b != nil || e != api.ErrLong {
		t.Errorf("Encode of one more, one of them wrong: %d bytes, %d", len(b), e)
	}
	if b, e := runes.Encode(l[:api.MaxText]); b != nil || e != api.ErrRunesRange {
		t.Errorf("Encode of MaxText runes, one of them wrong: %d bytes, %d", len(b), e)
	}
}

// P1.4: each small number, those that wrap round into letters, and the ends of the numbers.
func TestWord(t *testing.T) {
	const letters = "abcdefghijklmnopqrstuvwxyzABCDEFGHIJKLMNOPQRSTUVWXYZ0123456789_"
	for r := -300; r < 0x3000; r++ {
		want := r >= 0 && r < 0x80 && bytes.IndexByte([]byte(letters), byte(r)) >= 0
		if runes.Word(r) != want {
			t.Errorf("Word(%d) = %t", r, !want)
		}
	}
	for _, step := range []int{1 << 8, 1 << 16, 1 << 20, 1 << 31, 1 << 32, 1 << 40, 1 << 62, -1 << 8, -1 << 32, math.MinInt} {
		for _, c := range letters {
			if runes.Word(int(c) + step) {
				t.Errorf("Word(%d) = true", int(c)+step)
			}
		}
	}
	for _, r := range []int{0x212A, 0x17F, 0xFF21, 0x660, 0x10FFFF, math.MaxInt, math.MinInt} {
		if runes.Word(r) {
			t.Errorf("Word(%x) = true", r)
		}
	}
}

// P1.7: bytes and runes that are handed in stay, with their spare room; answers share no memory.
func TestTextsStay(t *testing.T) {
	whole := []byte("a\xC3\xA9\xE2\x82\xACzzzz")
	kept := slices.Clone(whole)
	b := whole[:6]
	runes.Decode(b)
	l, p := runes.Cut(b)
	l2, p2 := runes.Cut(b)
	for _, list := range [][]int{l, p} {
		spoil(list)
	}
	if !slices.Equal(l2, []int{0x61, 0xE9, 0x20AC}) || !slices.Equal(p2, []int{0, 1, 3, 6}) || !bytes.Equal(whole, kept) {
		t.Errorf("Cut: %x, %v, %x", l2, p2, whole)
	}
	in := []int{0x61, 0xE9, 0x20AC, 7, 7}
	one, _ := runes.Encode(in[:3])
	two, _ := runes.Encode(in[:3])
	spoil(one)
	if string(two) != "a\xC3\xA9\xE2\x82\xAC" || !slices.Equal(in, []int{0x61, 0xE9, 0x20AC, 7, 7}) {
		t.Errorf("Encode: %x, %x", two, in)
	}
}

// P1.7: the two lists that Cut answers share no memory, spare room too; and what is done with the bytes later shows in neither.
func TestCutApart(t *testing.T) {
	b := []byte("\xC3\xA9\xC3\xA9")
	l, p := runes.Cut(b)
	spoil(b)
	if !slices.Equal(l, []int{0xE9, 0xE9}) || !slices.Equal(p, []int{0, 2, 4}) {
		t.Errorf("Cut: %x, %v", l, p)
	}
	spoil(l)
	if !slices.Equal(p, []int{0, 2, 4}) {
		t.Errorf("places: %v", p)
	}
	l, p = runes.Cut([]byte("\xC3\xA9\xC3\xA9"))
	spoil(p)
	if !slices.Equal(l, []int{0xE9, 0xE9}) {
		t.Errorf("runes: %x", l)
	}
}

// spoil writes over all of a list's memory, spare room too.
func spoil[T byte | int](l []T) {
	l = l[:cap(l)]
	for i := range l {
		l[i] = 99
	}
}

// P1.8: runes are what Cut makes of their bytes.
func TestEncodeThenCut(t *testing.T) {
	edges := []int{0, 9, 0x61, 0x7F, 0x80, 0x7FF, 0x800, 0xD7FF, 0xE000, 0xFFFD, 0xFFFF, 0x10000, 0x10FFFF}
	for _, x := range edges {
		for _, y := range edges {
			for _, z := range edges {
				l := []int{x, y, z}
				b, e := runes.Encode(l)
				if back, _ := runes.Cut(b); e != api.OK || !slices.Equal(back, l) {
					t.Fatalf("Cut(Encode(%x)) = %x", l, back)
				}
			}
		}
	}
}

// P1.8: bytes are what Encode makes of their runes, if none is broken; the runes are so in any case.
func TestCutThenEncode(t *testing.T) {
	for n := 0; n <= 3; n++ {
		eachRow(edgeBytes, n, func(row []byte) {
			l, p := runes.Cut(row)
			b, e := runes.Encode(l)
			if e != api.OK {
				t.Fatalf("Encode(%x): %d", l, e)
			}
			if whole := noneBroken(l, p); whole != bytes.Equal(b, row) {
				t.Fatalf("Encode(Cut(%x)) = %x", row, b)
			}
			if again, _ := runes.Cut(b); !slices.Equal(again, l) {
				t.Fatalf("Cut(%x) = %x; want %x", b, again, l)
			}
		})
	}
}

// noneBroken tells whether no byte was told as FFFD by itself.
func noneBroken(l, p []int) bool {
	for i, r := range l {
		if r == 0xFFFD && p[i+1]-p[i] == 1 {
			return false
		}
	}
	return true
}

// P1.9: cut at a place, bytes have the runes ahead of it and those behind it.
func TestPlaces(t *testing.T) {
	check := func(b []byte) {
		l, p := runes.Cut(b)
		for i, at := range p {
			ahead, placesAhead := runes.Cut(b[:at])
			behind, placesBehind := runes.Cut(b[at:])
			for k := range placesBehind {
				placesBehind[k] += at
			}
			if !slices.Equal(ahead, l[:i]) || !slices.Equal(placesAhead, p[:i+1]) {
				t.Fatalf("%x up to %d: %x, %v", b, at, ahead, placesAhead)
			}
			if !slices.Equal(behind, l[i:]) || !slices.Equal(placesBehind, p[i:]) {
				t.Fatalf("%x from %d on: %x, %v", b, at, behind, placesBehind)
			}
		}
	}
	eachRow([]byte{0x61, 0x80, 0x8F, 0x90, 0xA0, 0xBF, 0xC3, 0xE0, 0xED, 0xF0, 0xF4}, 5, check)
	eachRow(edgeBytes, 2, check)
	check([]byte("a\xE2\x82b\xC3\xA9\xF0\x9F\x98\x80\xF0\x9F\x98"))
}
