package many_test

import (
	"slices"
	"strconv"
	"strings"
	"testing"
	"time"

	"heron/api"
)

// TestLengths: P18.2, P18.3, W3, W7: bytes of MaxText and one more: it is the bytes that are counted, not the runes; that they are too many is told whatever fits, and beside it nothing.
func TestLengths(t *testing.T) {
	const long = api.MaxText
	for _, l := range [][]string{{`b`}, {``}, {`x`, `a`, `é`}, {`\Ab`, `\z`}} {
		m := made(t, l...)
		for _, unit := range []string{"a", "é", "\xFF", "😀"} {
			b := repeated(long/len(unit)+1, unit)
			wantLong(t, m, b[:long+1])
			if got, want := asked(t, m, b[:long]), modelOfEach(t, regexesOf(t, l), b[:long]); !got.same(want) {
				t.Errorf("%q in %s: %v; want %v", l, shown(b[:long]), got, want)
			}
		}
	}
	wantLong(t, made(t, `a`), make([]byte, 3*long))
	// A set that has refused is the same as ahead.
	m := made(t, `a`, `b`)
	wantLong(t, m, repeated(long+1, "b"))
	if got := asked(t, m, []byte("b")); !got.same(told{[]int{1}, 1, []int{0, 1}}) {
		t.Errorf("%v", got)
	}
}

// TestLongest: P18.2, P18.3, T8: MaxText bytes, in which something fits at the beginning, at the end, everywhere, and nowhere.
func TestLongest(t *testing.T) {
	const long = api.MaxText
	b := repeated(long, "-")
	copy(b, "ab")
	copy(b[long-4:], "éab")
	for _, x := range []struct {
		l    []string
		want told
	}{
		{[]string{`c`, `éab\z`, `x`}, told{[]int{1}, 1, []int{long - 4, long}}},
		{[]string{`é`, `-(?:-|é)*(a)`, `b-+(é)`}, told{[]int{0, 1, 2}, 2, []int{1, long - 2, long - 4, long - 2}}},
		{[]string{`c`, `\A[^z]*`, `ab`}, told{[]int{1, 2}, 1, []int{0, long}}},
		{[]string{`c`, `(-+)(?:x|y)`, `\Aé`}, none()},
		{[]string{`ab\z`, `aé|éa`, `\z`}, told{[]int{0, 1, 2}, 1, []int{long - 4, long - 1}}},
	} {
		wantTold(t, x.l, b, x.want)
	}
}

// TestFullSetOfLongText: P18.2, P18.3, W1: as many patterns as there may be, over MaxText bytes, take no more than seconds.
func TestFullSetOfLongText(t *testing.T) {
	l := make([]string, api.MaxSet)
	for which := range l {
		l[which] = `[a-z]{` + strconv.Itoa(which+1) + `}[0-9]` + strings.Repeat(`x`, which%7)
	}
	const long = api.MaxText
	b := repeated(long/4, "abc-")
	copy(b[long-10:], "-abcdef3xx")
	began := time.Now()
	got := asked(t, made(t, l...), b)
	if took := time.Since(began); took > 100*time.Second {
		t.Errorf("%v", took)
	}
	// Of 6 letters at most ahead of the digit, and as many x behind as there are.
	if want := (told{[]int{0, 1, 2}, 2, []int{long - 6, long}}); !got.same(want) {
		t.Errorf("%v; want %v", got, want)
	}
}

// TestManySteps: P18.2, P18.3, T4: patterns whose ways through bytes are without number: no set takes more steps than all its instructions times the places.
func TestManySteps(t *testing.T) {
	l := []string{`(a*)*b`, `(?:a|a)*b`, `(a|aa)+\z-`, `(?:a?){30}a{30}b`, `(?:(?:a*)*)*$b`, `((a+)+)+c`, `(?:a*a*a*a*)*b`}
	for _, b := range [][]byte{repeated(100, "a"), repeated(20000, "a")} {
		began := time.Now()
		wantTold(t, l, b, none())
		wantTold(t, append(slices.Clone(l), `(a*)*`), b, told{[]int{7}, 7, []int{0, len(b), 0, len(b)}})
		if took := time.Since(began); took > 20*time.Second {
			t.Errorf("%v", took)
		}
	}
}

// TestGreatSets: P18.1 to P18.3, P18.5: sets whose programs are as long together as there may be find what they find alone, and side by side.
func TestGreatSets(t *testing.T) {
	two := []string{as(t, 9999), as(t, 10000)}
	b := []byte("-" + strings.Repeat("a", 9000) + "bbbbbb" + strings.Repeat("c", 990))
	wantTold(t, two, b, told{[]int{0}, 0, []int{1, len(b)}})
	b = []byte("-" + strings.Repeat("a", 9000) + "bbbbbbb" + strings.Repeat("c", 990))
	wantTold(t, two, b, told{[]int{1}, 1, []int{1, len(b)}})
	wantTold(t, two, b[2:], none())
	hundred := slices.Repeat([]string{as(t, 199)}, 99)
	wantSideBySide(t, append(hundred, as(t, 200)), []byte("-"+strings.Repeat("b", 7)+strings.Repeat("c", 190)))
	wantSideBySide(t, []string{as(t, api.MaxInsts)}, repeated(50, "ab"))
	// A class of as many ranges as there may be, in each of several patterns.
	var runes []rune
	for i := range api.MaxRanges {
		runes = append(runes, rune(0x100+2*i))
	}
	class := "[" + string(runes) + "]"
	wantSideBySide(t, []string{`x`, class + `{30}x`, class + `(` + class + `)ā`, `y`}, []byte("-"+string(runes[:40])+"ā"+string(runes[api.MaxRanges-30:])+"xy"))
	// A pattern of as many bytes as there may be.
	longest := "[" + strings.Repeat("a", api.MaxPattern-2) + "]"
	wantTold(t, slices.Repeat([]string{longest}, 3), []byte("ba"), told{[]int{0, 1, 2}, 0, []int{1, 2}})
}
