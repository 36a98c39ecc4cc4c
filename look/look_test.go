package look_test

import (
	"math"
	"slices"
	"testing"

	"heron/api"
	"heron/look"
)

// edgeRunes are those at which what holds could change: around the line's end and the ranges of words, and numbers that are no runes.
var edgeRunes = []int{
	10, 'a', '_', '-', -5, 0xE9, 1<<32 + 'a', 1<<32 + 10,
}

// moreRunes are all numbers whose neighbours are told apart, and the ends of the whole numbers.
var moreRunes = []int{
	math.MinInt, math.MinInt + 10, math.MinInt + 'a', -1<<32 + 10, -1<<32 + 'a', -10, -1, 0, 9, 10, 11, 13,
	'/', '0', '5', '9', ':', '@', 'A', 'M', 'Z', '[', '^', '_', '`', 'a', 'm', 'z', '{', 0x7F, 0x85, 0xC0, 0xE9, 0x17F, 0x212A, 0x2028,
	0xD800, 0xDFFF, 0xFFFD, 0x10FFFF, 0x110000, 1<<32 + 10, 1<<32 + 'a', 1<<33 + '_', math.MaxInt,
}

// eachText calls f with every text of up to most of some runes; f must not keep it.
func eachText(some []int, most int, f func([]int)) {
	var grow func([]int)
	grow = func(text []int) {
		f(text)
		if len(text) == most {
			return
		}
		for _, r := range some {
			grow(append(slices.Clip(text), r))
		}
	}
	grow(nil)
}

// isWord tells of chapter 1's words whether a number is a Word.
func isWord(r int) bool {
	return r >= 'a' && r <= 'z' || r >= 'A' && r <= 'Z' || r >= '0' && r <= '9' || r == '_'
}

// wantAt tells of the chapter's table what holds at a place of a text.
func wantAt(text []int, i int) int {
	n := len(text)
	first, last := i == 0, i == n
	sum, words := 0, 0
	if first {
		sum += 1
	}
	if last {
		sum += 2
	}
	if first || text[i-1] == 10 {
		sum += 4
	}
	if last || text[i] == 10 {
		sum += 8
	}
	if !first && isWord(text[i-1]) {
		words++
	}
	if !last && isWord(text[i]) {
		words++
	}
	if words == 1 {
		return sum + 16
	}
	return sum + 32
}

// turned is a text's runes in the other order.
func turned(text []int) []int {
	out := slices.Clone(text)
	slices.Reverse(out)
	return out
}

// P2.1: the chapter's examples, and each assertion at its edges.
func TestAtExamples(t *testing.T) {
	for _, c := range []struct {
		text        []int
		place, want int
	}{
		{nil, 0, 47}, {[]int{}, 0, 47},
		{[]int{'a'}, 0, 21}, {[]int{'a'}, 1, 26},
		{[]int{'a', 10, 'b'}, 1, 24}, {[]int{'a', 10, 'b'}, 2, 20},
		{[]int{'-', 10, 10}, 2, 44}, {[]int{-5, 'a'}, 1, 16},
		{[]int{'-'}, 0, 1 + 4 + 32}, {[]int{'-'}, 1, 2 + 8 + 32},
		{[]int{10}, 0, 1 + 4 + 8 + 32}, {[]int{10}, 1, 2 + 4 + 8 + 32},
		{[]int{'a', 'b'}, 1, 32}, {[]int{'a', '_'}, 1, 32}, {[]int{'9', 'Z'}, 1, 32}, {[]int{'-', '+'}, 1, 32},
		{[]int{'a', '-'}, 1, 16}, {[]int{'-', 'a'}, 1, 16}, {[]int{'a', 0xE9}, 1, 16}, {[]int{13, 'a'}, 1, 16},
		{[]int{'a', 1<<32 + 'a'}, 1, 16}, {[]int{1<<32 + 10, 1<<32 + 10}, 1, 32}, {[]int{math.MinInt, math.MaxInt}, 1, 32},
	} {
		if got := look.At(c.text, c.place); got != c.want {
			t.Errorf("At(%v, %d) = %d; want %d", c.text, c.place, got, c.want)
		}
	}
}

// P2.1: a place that is none has nothing that holds.
func TestAtNoPlace(t *testing.T) {
	for _, text := range [][]int{nil, {'a'}, {10}, {'a', 10, '-'}} {
		n := len(text)
		for _, place := range []int{-1, -2, -n - 1, n + 1, n + 2, math.MinInt, math.MinInt + 1, math.MaxInt, 1 << 32} {
			if place >= 0 && place <= n {
				continue
			}
			if got := look.At(text, place); got != 0 {
				t.Errorf("At(%v, %d) = %d; want 0", text, place, got)
			}
		}
	}
}

// P2.1: spare room behind a text is none of it.
func TestAtSpareRoom(t *testing.T) {
	row := []int{'a', 'b', 10, 'c'}
	for n := range row {
		for place := n + 1; place <= len(row); place++ {
			if got := look.At(row[:n], place); got != 0 {
				t.Errorf("At(%v, %d) = %d; want 0", row[:n], place, got)
			}
		}
		if got, want := look.At(row[:n], n), wantAt(slices.Clone(row[:n]), n); got != want {
			t.Errorf("At(%v, %d) = %d; want %d", row[:n], n, got, want)
		}
	}
}

// P2.1: every short text of edge runes, and every pair of more of them, at all places.
func TestAtEveryPlace(t *testing.T) {
	check := func(text []int) {
		for i := 0; i <= len(text); i++ {
			if got, want := look.At(text, i), wantAt(text, i); got != want {
				t.Fatalf("At(%v, %d) = %d; want %d", text, i, got, want)
			}
		}
	}
	eachText(edgeRunes, 4, check)
	eachText(moreRunes, 2, check)
}

// P2.1: each number near the domain's small runes, alone on either side.
func TestAtEveryByte(t *testing.T) {
	for r := -300; r <= 300; r++ {
		for _, text := range [][]int{{r, '-'}, {'-', r}, {r, 'a'}, {'a', r}, {r, 10}, {10, r}} {
			if got, want := look.At(text, 1), wantAt(text, 1); got != want {
				t.Fatalf("At(%v, 1) = %d; want %d", text, got, want)
			}
		}
	}
}

// P2.1: there is no error, so a text of more than MaxText runes has places too.
func TestAtLongText(t *testing.T) {
	text := make([]int, api.MaxText+2)
	text[api.MaxText] = 'a'
	for _, c := range []struct{ place, want int }{
		{0, 1 + 4 + 32}, {1, 32}, {api.MaxText, 16}, {api.MaxText + 1, 16}, {api.MaxText + 2, 2 + 8 + 32}, {api.MaxText + 3, 0},
	} {
		if got := look.At(text, c.place); got != c.want {
			t.Errorf("At(long, %d) = %d; want %d", c.place, got, c.want)
		}
	}
}

// P2.2: the chapter's examples, bits that are no assertion's, numbers below 0.
func TestHoldsExamples(t *testing.T) {
	for _, c := range []struct {
		which, bits int
		want        bool
	}{
		{4, 47, true}, {16, 47, false}, {36, 47, true}, {0, 0, true},
		{0, -1, true}, {0, math.MinInt, true}, {3, 1, false}, {1, 3, true}, {1, 0, false},
		{64, 63, false}, {64, 64, true}, {64, 127, true}, {1 << 40, 1 << 40, true}, {1 << 40, 1<<40 - 1, false},
		{63, -1, true}, {-1, -1, true}, {math.MinInt, -1, true}, {math.MaxInt, -1, true}, {-1, math.MaxInt, false},
		{-1, 63, false}, {1, -2, false}, {2, -2, true}, {-2, -1, true}, {-1, -2, false}, {-8, -4, true}, {-4, -8, false},
		{math.MinInt, math.MinInt, true}, {math.MinInt, 63, false}, {math.MinInt, 0, false}, {math.MaxInt, math.MaxInt, true}, {1, math.MinInt, false},
	} {
		if got := look.Holds(c.which, c.bits); got != c.want {
			t.Errorf("Holds(%d, %d) = %v; want %v", c.which, c.bits, got, c.want)
		}
	}
}

// P2.2: bit by bit, for all pairs of small numbers on both sides of 0.
func TestHoldsBits(t *testing.T) {
	for which := -130; which <= 130; which++ {
		for bits := -130; bits <= 130; bits++ {
			want := true
			for k := range 64 {
				want = want && (uint64(which)>>k&1 == 0 || uint64(bits)>>k&1 == 1)
			}
			if got := look.Holds(which, bits); got != want {
				t.Fatalf("Holds(%d, %d) = %v; want %v", which, bits, got, want)
			}
		}
	}
}

// P2.3: the chapter's examples, bits that are no assertion's, numbers below 0.
func TestFlipExamples(t *testing.T) {
	for _, c := range []struct{ which, want int }{
		{0, 0}, {1, 2}, {2, 1}, {4, 8}, {8, 4}, {9, 6}, {6, 9}, {3, 3}, {12, 12}, {5, 10}, {15, 15}, {48, 48}, {16, 16}, {32, 32}, {64, 64},
		{21, 26}, {47, 47}, {63, 63}, {64 + 1, 64 + 2}, {1<<40 + 8, 1<<40 + 4},
		{-1, -1}, {-2, -3}, {-3, -2}, {-5, -9}, {-9, -5}, {-16, -16}, {-16 + 1, -16 + 2},
		{math.MinInt, math.MinInt}, {math.MinInt + 4, math.MinInt + 8}, {math.MaxInt, math.MaxInt}, {math.MaxInt - 1, math.MaxInt - 2},
	} {
		if got := look.Flip(c.which); got != c.want {
			t.Errorf("Flip(%d) = %d; want %d", c.which, got, c.want)
		}
	}
}

// P2.3: bit by bit, alone and beside others.
func TestFlipBits(t *testing.T) {
	to := [64]int{0: 1, 1: 0, 2: 3, 3: 2}
	for k := 4; k < 64; k++ {
		to[k] = k
	}
	check := func(which int) {
		want := uint64(0)
		for k := range 64 {
			want |= uint64(which) >> k & 1 << to[k]
		}
		if got := look.Flip(which); got != int(want) {
			t.Fatalf("Flip(%d) = %d; want %d", which, got, int(want))
		}
	}
	for which := -300; which <= 300; which++ {
		check(which)
		check(math.MinInt + 300 + which)
		check(math.MaxInt - 300 + which)
	}
	for k := range 64 {
		check(int(uint64(1) << k))
		check(int(^(uint64(1) << k)))
	}
}

// P2.4: neither the text nor its spare room is changed, and what is changed later is not remembered.
func TestAtLeavesText(t *testing.T) {
	room := []int{'a', 10, '-', 'b', 7, 8, 9}
	was := slices.Clone(room)
	text := room[:4]
	for place := -1; place <= len(text)+1; place++ {
		look.At(text, place)
	}
	if !slices.Equal(room, was) {
		t.Errorf("At changed %v to %v", was, room)
	}
	if got := look.At(text, 1); got != 24 {
		t.Errorf("At ahead of the change = %d; want 24", got)
	}
	text[0], text[1] = '-', 'b'
	if got := look.At(text, 1); got != 16 {
		t.Errorf("At behind the change = %d; want 16", got)
	}
	text[0], text[1] = 10, 10
	if got := look.At(text, 1); got != 44 {
		t.Errorf("At behind the second change = %d; want 44", got)
	}
}

// P2.5: just one of the two about words, and the text's edges are lines' edges.
func TestWhatHoldsTogether(t *testing.T) {
	eachText(edgeRunes, 3, func(text []int) {
		for i := 0; i <= len(text); i++ {
			bits := look.At(text, i)
			if look.Holds(api.WordEdge, bits) == look.Holds(api.NoWordEdge, bits) {
				t.Fatalf("At(%v, %d) = %d: not just one of the two about words", text, i, bits)
			}
			if look.Holds(api.BeginText, bits) && !look.Holds(api.BeginLine, bits) {
				t.Fatalf("At(%v, %d) = %d: the text begins, no line", text, i, bits)
			}
			if look.Holds(api.EndText, bits) && !look.Holds(api.EndLine, bits) {
				t.Fatalf("At(%v, %d) = %d: the text ends, no line", text, i, bits)
			}
			if bits < 0 || bits > 63 {
				t.Fatalf("At(%v, %d) = %d: more than the six", text, i, bits)
			}
		}
	})
}

// P2.5: what stands further off than beside the place tells nothing.
func TestNeighboursAlone(t *testing.T) {
	eachText(edgeRunes, 4, func(text []int) {
		for i := 0; i <= len(text); i++ {
			near := text[max(i-1, 0):min(i+1, len(text))]
			if got, want := look.At(text, i), look.At(near, min(i, 1)); got != want {
				t.Fatalf("At(%v, %d) = %d; of its neighbours alone %d", text, i, got, want)
			}
		}
	})
}

// P2.6: backward, and Flip of Flip.
func TestBackward(t *testing.T) {
	eachText(edgeRunes, 4, func(text []int) {
		back := turned(text)
		for i := 0; i <= len(text); i++ {
			if got, want := look.At(text, i), look.Flip(look.At(back, len(text)-i)); got != want {
				t.Fatalf("At(%v, %d) = %d; backward %d", text, i, got, want)
			}
		}
	})
	for which := -300; which <= 300; which++ {
		for _, w := range []int{which, which << 32, math.MaxInt - 300 + which, math.MinInt + 300 + which} {
			if got := look.Flip(look.Flip(w)); got != w {
				t.Fatalf("Flip of Flip(%d) = %d", w, got)
			}
		}
	}
}

// P2.7: runes put behind a text, or ahead of it, change nothing but at the place where they were put.
func TestPutTogether(t *testing.T) {
	eachText(edgeRunes, 3, func(text []int) {
		eachText(edgeRunes, 2, func(more []int) {
			behind, ahead := slices.Concat(text, more), slices.Concat(more, text)
			for i := 0; i < len(text); i++ {
				if got, want := look.At(behind, i), look.At(text, i); got != want {
					t.Fatalf("At(%v with %v behind, %d) = %d; alone %d", text, more, i, got, want)
				}
			}
			for i := 1; i <= len(text); i++ {
				if got, want := look.At(ahead, i+len(more)), look.At(text, i); got != want {
					t.Fatalf("At(%v with %v ahead, %d) = %d; alone %d", text, more, i, got, want)
				}
			}
		})
	})
}

// W1, W2: what was asked ahead, and at the same time, changes no answer.
func TestSameAnswerAgain(t *testing.T) {
	text := []int{'a', 10, '-', 'b'}
	done := make(chan bool)
	for range 8 {
		go func() {
			ok := true
			for range 200 {
				for i := 0; i <= len(text); i++ {
					ok = ok && look.At(text, i) == wantAt(text, i)
				}
			}
			done <- ok
		}()
	}
	for range 8 {
		if !<-done {
			t.Error("At answered otherwise beside other calls")
		}
	}
}
