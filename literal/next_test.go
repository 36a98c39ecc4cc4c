package literal_test

import (
	"math/rand"
	"slices"
	"strings"
	"testing"

	"heron/literal"
)

// asking is what a finder is asked, and what it is to answer.
type asking struct {
	lit, text string
	at, want  int
}

// examplesOfNext are the chapter's.
func examplesOfNext() []asking {
	return []asking{
		{"ab", "abab", 0, 0}, {"ab", "abab", 1, 2}, {"ab", "abab", 3, -1}, {"ab", "abab", 5, -1},
		{"aab", "aaab", 0, 1}, {"", "ab", 2, 2}, {"", "ab", -1, -1},
	}
}

// wantAskings fails, if one of them is answered otherwise, or if something else that can be asked of its text is.
func wantAskings(t *testing.T, l []asking) {
	t.Helper()
	for _, x := range l {
		lit, text := runesOf(x.lit), runesOf(x.text)
		wantNext(t, lit, text, x.at, x.want)
		wantNexts(t, made(t, lit), lit, text)
	}
}

// TestNextExamples: P15.3: what the chapter's examples say.
func TestNextExamples(t *testing.T) { wantAskings(t, examplesOfNext()) }

// TestPlaces: P15.3: a place at which the row stands counts itself, one ahead of it does not; 0, the text's length, one below it, one above, and the last place at which it can stand.
func TestPlaces(t *testing.T) {
	wantAskings(t, []asking{
		{"a", "a", 0, 0}, {"a", "a", 1, -1}, {"a", "a", 2, -1}, {"a", "a", -1, -1}, {"a", "", 0, -1}, {"a", "", 1, -1}, {"a", "", -1, -1},
		{"ab", "abxab", 0, 0}, {"ab", "abxab", 1, 3}, {"ab", "abxab", 3, 3}, {"ab", "abxab", 4, -1}, {"ab", "abxab", 5, -1}, {"ab", "abxab", 6, -1},
		{"aa", "aaaa", 1, 1}, {"aa", "aaaa", 2, 2}, {"aa", "aaaa", 3, -1},
		// What stands ahead of the place is not read.
		{"ab", "ab", 1, -1}, {"abab", "ababab", 1, 2}, {"aab", "aab", 1, -1},
		// Nearly, and cut off at the end.
		{"abc", "ababab", 0, -1}, {"abc", "abab", 0, -1}, {"abc", "xab", 0, -1}, {"abc", "abxabc", 0, 3}, {"abc", "acbabc", 0, 3},
	})
}

// TestNoRunes: P15.3: a row of no runes stands at each place, the last one too.
func TestNoRunes(t *testing.T) {
	for _, lit := range [][]int{nil, {}, make([]int, 0, 5)} {
		f := made(t, lit)
		for _, text := range [][]int{nil, {}, {'a'}, {0, 0}, runesOf("abcabc"), many(1000, -1)} {
			for at := range len(text) + 1 {
				if place := f.Next(text, at); place != at {
					t.Errorf("none in %s from %d: %d", shown(text), at, place)
				}
			}
			if count := wantNexts(t, f, lit, text); count != len(text)+1 {
				t.Errorf("none in %s: at %d places", shown(text), count)
			}
		}
	}
}

// TestLongerThanText: P15.3: rows that are longer than the text, than what is left of it, as long, and one shorter.
func TestLongerThanText(t *testing.T) {
	wantAskings(t, []asking{
		{"aaaa", "aaa", 0, -1}, {"aaa", "aaa", 0, 0}, {"aaa", "aaa", 1, -1}, {"aa", "aaa", 1, 1}, {"aa", "aaa", 2, -1}, {"abcd", "abc", 0, -1}, {"abcd", "abcd", 0, 0}, {"bcd", "abcd", 0, 1}, {"bcd", "abcd", 1, 1}, {"bcd", "abcd", 2, -1}, {"abc", "", 0, -1},
		{strings.Repeat("ab", 500), "ab", 0, -1},
	})
	long := many(1000, int('a'))
	f := made(t, long)
	for count := range 1001 {
		want := -1
		if count == 1000 {
			want = 0
		}
		if place := f.Next(long[:count], 0); place != want {
			t.Errorf("%d runes: %d", count, place)
		}
	}
}

// TestComesAgainWithin: P15.3, P15.6: rows whose beginning comes again within them, in texts in which they nearly stand, and overlap with themselves.
func TestComesAgainWithin(t *testing.T) {
	wantAskings(t, []asking{
		{"abab", "abaabab", 0, 3}, {"aab", "aaaaab", 0, 3}, {"aaa", "aabaaa", 0, 3}, {"abaab", "abaabaab", 1, 3}, {"aabaaab", "aabaabaaab", 0, 3}, {"abcabd", "abcabcabd", 0, 3}, {"abacabad", "abacabacabad", 0, 4}, {"aabaabaaa", "aabaabaabaaa", 0, 3}, {"ababac", "abababac", 0, 2}, {"abcabcabx", "abcabcabcabx", 0, 3},
		// By more than one border at one rune.
		{"aaaab", "aaaacaaaab", 0, 5}, {"abaabaaba", "abaabaabbabaabaaba", 0, 9}, {"aabaacaabaaa", "aabaacaabaacaabaaa", 0, 6}, {"abaababaabaab", "abaababaabaababaabaab", 1, 8},
	})
	fibonacci := []string{"b", "a"}
	for len(fibonacci) < 12 {
		fibonacci = append(fibonacci, fibonacci[len(fibonacci)-1]+fibonacci[len(fibonacci)-2])
	}
	text := runesOf(fibonacci[11] + fibonacci[11] + "b" + fibonacci[11])
	for _, word := range fibonacci {
		for _, lit := range []string{word, word + word, word + "b", "a" + word, word + word + "a"} {
			wantNexts(t, made(t, runesOf(lit)), runesOf(lit), text)
		}
	}
	if count := wantNexts(t, made(t, runesOf("aaa")), runesOf("aaa"), many(100, int('a'))); count != 98 {
		t.Errorf("%d places", count)
	}
}

// words are all rows of at most so many of the first runes from a on.
func words(runes, most int) [][]int {
	l := [][]int{nil}
	for i := 0; i < len(l); i++ {
		for r := range runes {
			if len(l[i]) < most {
				l = append(l, append(slices.Clone(l[i]), 'a'+r))
			}
		}
	}
	return l
}

// TestSmallWords: P15.3, P15.6: every small row in every small text.
func TestSmallWords(t *testing.T) {
	for _, x := range []struct{ runes, row, text int }{{1, 8, 12}, {2, 6, 9}, {3, 4, 6}, {4, 3, 4}} {
		texts := words(x.runes, x.text)
		stood := 0
		for _, lit := range words(x.runes, x.row) {
			f := made(t, lit)
			for _, text := range texts {
				stood += wantNexts(t, f, lit, text)
			}
		}
		if stood < len(texts) {
			t.Errorf("%+v: at %d places", x, stood)
		}
	}
}

// TestAnyNumbers: P15.2, P15.3: rows and texts that hold numbers that are no runes, and such as are the same in their lowest bits alone.
func TestAnyNumbers(t *testing.T) {
	numbers := []int{least, least + 1, -1 << 40, -1 << 32, -1 << 31, -256, -2, -1, 0, 1, 'a', 'a' + 1<<7, 'a' + 1<<8, 'a' + 1<<16, 'a' + 1<<21, 'a' + 1<<31, 'a' + 1<<32, 0xD7FF, 0xD800, 0xDFFF, 0xE000, 0x10FFFF, 0x110000, 1 << 31, 1 << 32, 1<<32 + 1, most - 1, most}
	all := append(slices.Clone(numbers), numbers...)
	for i, r := range numbers {
		wantNext(t, []int{r}, all, 0, i)
		wantNext(t, []int{r}, all, i+1, len(numbers)+i)
		wantNext(t, []int{r}, slices.Concat(numbers[:i], numbers[i+1:]), 0, -1)
		for k, s := range numbers {
			lit := []int{r, s, r}
			text := []int{r, s, s, r, r, s, r, s, r}
			wantNexts(t, made(t, lit), lit, text)
			if i != k {
				wantNext(t, []int{r, r}, []int{r, s, r, s, s, r}, 0, -1)
			}
		}
		for count := 2; count <= 5; count++ {
			wantNexts(t, made(t, all[i:i+count]), all[i:i+count], all)
		}
	}
	wantNexts(t, made(t, all), all, slices.Concat(all, numbers, all))
}

// TestOrderOfQuestions: P15.3, W2: one finder asked in any order, of texts that have the row, end within it, begin within it, or have it not, and where it is refused between: each answer is its own question's.
func TestOrderOfQuestions(t *testing.T) {
	g := rand.New(rand.NewSource(15))
	texts := []string{"", "a", "ab", "aba", "abab", "b", "bab", "ababab", "aabab", "abaabab", "xxababxx", "cba", strings.Repeat("aba", 20), strings.Repeat("ab", 20)}
	type question struct {
		text     []int
		at, want int
	}
	for _, lit := range []string{"", "a", "ab", "abab", "abaab", "bab", "cc", strings.Repeat("ab", 10)} {
		var l []question
		for _, s := range texts {
			text := runesOf(s)
			for at := -1; at <= len(text)+1; at++ {
				l = append(l, question{text, at, modelNext(runesOf(lit), text, at)})
			}
		}
		f, other := made(t, runesOf(lit)), made(t, runesOf("ba"))
		for range 20 {
			g.Shuffle(len(l), func(i, j int) { l[i], l[j] = l[j], l[i] })
			for _, q := range l {
				other.Next(q.text, q.at)
				if place := f.Next(q.text, q.at); place != q.want {
					t.Errorf("%q in %s from %d: %d; want %d", lit, shown(q.text), q.at, place, q.want)
				}
			}
			literal.New(runesOf("aaa"))
		}
	}
}

// TestPutIn: P15.6: a row that is put into a text is found at the latest there, from the place itself and from all ahead of it.
func TestPutIn(t *testing.T) {
	g := grower{rand.New(rand.NewSource(156))}
	for range 20000 {
		lit, text := g.word(8), g.word(30)
		if place := g.Intn(len(text) + 1); place+len(lit) <= len(text) {
			copy(text[place:], lit)
			f := made(t, lit)
			for at := range place + 1 {
				if told := f.Next(text, at); told < at || told > place || !standsAt(lit, text, told) {
					t.Errorf("%s, put at %d into %s, from %d: %d", shown(lit), place, shown(text), at, told)
				}
			}
		}
	}
}
